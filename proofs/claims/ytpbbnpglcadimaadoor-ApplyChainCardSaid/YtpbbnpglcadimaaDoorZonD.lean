/- The contracts of layer 8: a record put in. -/
import Derived.Test.YtpbbnpglcadimaaDoorZonC
namespace Go.Proofs.YtpbbnpglcadimaaDoor
open Go.RowKit
set_option linter.unusedVariables false
set_option linter.unusedSimpArgs false
set_option maxRecDepth 20000
attribute [local simp] putsF isV wordOf Deps Region.binds Region.wanted Act.put wantedX isB
def lowB (r q : RecT) : Bool := decide (cmpR q r < 0)
/-- Records with one more, where it stands. -/
def insR (rs : List RecT) (r : RecT) : List RecT := rs.takeWhile (lowB r) ++ r :: rs.dropWhile (lowB r)
theorem take_while {rs : List RecT} {r : RecT} {k : Nat} (h : ∀ q ∈ rs.take k, lowB r q = true) (he : ∀ q, rs[k]? = some q → lowB r q = false) : rs.takeWhile (lowB r) = rs.take k ∧ rs.dropWhile (lowB r) = rs.drop k := by
  induction rs generalizing k with
  | nil => simp
  | cons q rs ih =>
    cases k with
    | zero =>
      have := he q rfl
      simp [this]
    | succ k =>
      have hq := h q (by simp)
      have := ih (k := k) (fun p hp => h p (by simp [hp])) (fun p hp => he p (by simpa using hp))
      simp [hq, this]
theorem insR_at {rs : List RecT} {r : RecT} {k : Nat} (h : ∀ q ∈ rs.take k, lowB r q = true) (he : ∀ q, rs[k]? = some q → lowB r q = false) : insR rs r = rs.take k ++ r :: rs.drop k := by
  obtain ⟨h1, h2⟩ := take_while h he
  unfold insR; rw [h1, h2]
theorem insR_len (rs : List RecT) (r : RecT) : (insR rs r).length = rs.length + 1 := by
  have h : (rs.takeWhile (lowB r) ++ rs.dropWhile (lowB r)).length = rs.length := by rw [List.takeWhile_append_dropWhile]
  rw [List.length_append] at h
  unfold insR
  rw [List.length_append, List.length_cons]; omega
/-- A slice's beginning, and its rest, are rows. -/
theorem RowROk.take {w : World} {A : Option Addr} {n c : Nat} {rs : List RecT} (h : RowROk w (A, n, c, rs)) (k : Nat) (hk : k ≤ n) (c' : Nat) : RowROk w (A, k, c', rs.take k) := by
  have hl := h.len
  dsimp only at hl
  refine ⟨⟨by rw [flatR_len]; simp; omega, fun hk0 => ?_⟩, fun e => by have := h.none_ e; dsimp only at this ⊢; omega, by simp; omega⟩
  obtain ⟨b, off, e, hb, hc⟩ := h.sl.2 (by dsimp only at hk0 ⊢; omega)
  refine ⟨b, off, e, hb, fun j u hu => hc j u ?_⟩
  have hf : flatR rs = flatR (rs.take k) ++ flatR (rs.drop k) := by rw [← flatR_append, List.take_append_drop]
  rw [hf, List.getElem?_append_left (List.getElem?_eq_some_iff.1 hu).1]
  exact hu
theorem RowROk.drop {w : World} {b off : Nat} {n c : Nat} {rs : List RecT} (h : RowROk w (some ⟨b, off, none⟩, n, c, rs)) (k : Nat) (hk : k ≤ n) (c' : Nat) : RowROk w (some ⟨b, off + k * 4, none⟩, n - k, c', rs.drop k) := by
  have hl := h.len
  dsimp only at hl
  refine ⟨⟨by rw [flatR_len]; simp; omega, fun hk0 => ?_⟩, fun e => (by cases e), (by simp; omega)⟩
  obtain ⟨b', off', e, hb, hc⟩ := h.sl.2 (by dsimp only at hk0 ⊢; omega)
  injection e with e; injection e with e1 e2; subst e1 e2
  refine ⟨b, off + k * 4, rfl, hb, fun j u hu => ?_⟩
  have hf : flatR rs = flatR (rs.take k) ++ flatR (rs.drop k) := by rw [← flatR_append, List.take_append_drop]
  have hlen : (flatR (rs.take k)).length = k * 4 := by rw [flatR_len]; simp; omega
  have := hc (k * 4 + j) u (by rw [hf, List.getElem?_append_right (by omega), hlen]; simpa using hu)
  rwa [← Nat.add_assoc] at this
theorem RowROk.nothing (w : World) (A : Option Addr) (c : Nat) : RowROk w (A, 0, c, []) := ⟨Sl.nil _ _ _ _, fun _ => rfl, rfl⟩
theorem RowROk.one {w : World} {g : Nat} {r : RecT} (h : Cs w g (recCells r)) : RowROk w (some ⟨g, 0, none⟩, 1, 1, [r]) :=
  ⟨⟨rfl, fun _ => ⟨g, 0, rfl, h.lt, fun j u hu => by rw [Nat.zero_add]; exact h.get j u (by simpa [flatR] using hu)⟩⟩, fun e => (by cases e), rfl⟩
/-- Three rows that are some records, one behind the other. -/
def joinW (L : List RecT) : Value → World → Prop := fun v w => ∃ g, v = .slice (some ⟨g, 0, none⟩) 3 3 ∧ ∃ rows : List RowR, Sl w w.heap.size 1 (some ⟨g, 0, none⟩) 3 (rows.map rowRV) ∧ (∀ r ∈ rows, RowROk w r) ∧ allR rows = L
theorem joinW_stays (L : List RecT) : ∀ v w w', joinW L v w → Goes w w' → joinW L v w' := by
  rintro v w w' ⟨g, rfl, rows, hS, hok, hL⟩ hb
  exact ⟨g, rfl, rows, (hS.below hb).more hb.size, fun r hr => (hok r hr).below hb, hL⟩
set_option maxHeartbeats 3200000 in
theorem insert_new (A : Option Addr) (n c : Nat) (rs : List RecT) (r : RecT) (w : World) (h : RowROk w (A, n, c, rs)) (hA : A = none → n = 0 ∧ c = 0) (hnc : n ≤ c) (hcm : c ≤ maxLen) (hn : n ≤ 100000) (hr : r ∉ rs) :
    Calls Tryd.prog 54 #[.slice A n c, recV r] w fun e w' => ∃ v, e = .returned (.tuple #[v, .nilIface]) ∧ OBM 4 w.heap.size w v (n + 1) (flatR (insR rs r)) w' := by
  have hl : rs.length = n := h.len
  obtain ⟨W, hW⟩ : ∃ W, W = w.alloc (.cells #[.string r.1, .int .u16 r.2.1, .int .u32 r.2.2.1, .string r.2.2.2] 41) := ⟨_, rfl⟩
  have hC : Cs W w.heap.size [.string r.1, .int .u16 r.2.1, .int .u32 r.2.2.1, .string r.2.2.2] := by rw [hW]; exact Cs.new w _ _ _
  have hbW : Below w.heap.size w W := by rw [hW]; exact (Below.refl _ _).alloc (Nat.le_refl _) _
  have HAS := Lib.hid (fun w h => has_any A n c rs r w h hl (by unfold maxLen; omega))
  have hf := hasB_false.2 hr
  rw [hf] at HAS
  have HW := Lib.hid hW
  have HC := Lib.hid hC
  have HBW := Lib.hid hbW
  have HR := Lib.hid (h.below hbW)
  have HL := Lib.hid hl
  unfold recV at HAS ⊢
  obtain ⟨g, hg⟩ : ∃ g, g = w.heap.size := ⟨_, rfl⟩
  rw [← hg] at HC
  have HG := Lib.hid hg
  clear h hW hC hbW hl hf hr hg
  go_enter Tryd.func54, Tryd.ntmps54
  go_wp2_with fail
  rw [← HW.out, ← HG.out]
  refine (HAS.out W (HR.out.sl.recs (Nat.le_refl _) HL.out)).mono ?_
  rintro e w1 ⟨rfl, hb1⟩
  have HC1 := Lib.hid (HC.out.below hb1)
  have HR1 := Lib.hid (HR.out.below hb1)
  have HB1 := Lib.hid (below_trans HBW.out HBW.out.size hb1)
  clear hb1 HAS
  go_wp2_with fail
  go_loopw [6] (fun i wr => ∃ k : Nat, k ≤ n ∧ i = .int .i64 k ∧ Hid (∀ q ∈ rs.take k, lowB r q = true) ∧ Hid (Below w1.heap.size w1 wr)) (fun i _ => n - (intOf i).toNat)
  case atStart => exact ⟨0, Nat.zero_le _, rfl, Lib.hid (by simp), Lib.hid (Below.refl _ _)⟩
  case round =>
    obtain ⟨k, hk, rfl, HK, HB⟩ := hrel
    by_cases hlt : k < n
    · have hlt' : (k : Int) < n := by omega
      obtain ⟨q, hq⟩ : ∃ q, rs[k]? = some q := ⟨_, List.getElem?_eq_getElem (by rw [HL.out]; exact hlt)⟩
      obtain ⟨b, off, he, hb, z0, z1, z2, z3⟩ := ((HR1.out.below HB.out).sl.recs (Nat.le_refl _) HL.out) k _ hq
      dsimp only at he
      subst he
      have HZ := Lib.hid (And.intro z0 (And.intro z1 (And.intro z2 z3)))
      have HQ := Lib.hid hq
      have HHB := Lib.hid hb
      obtain ⟨m, hm⟩ : ∃ m, cmpR q r = m := ⟨_, rfl⟩
      have CM := Lib.hid (fun w => compare_any q r w)
      rw [hm] at CM
      unfold recV at CM
      have HM := Lib.hid hm
      have HC2 := Lib.hid (HC1.out.below HB.out)
      clear hq hb z0 z1 z2 z3 hm
      by_cases hm0 : m < 0
      · go_upto_region 4 with fail
        refine wp_region_goesG data_follows (fun x => by simp [putsF, Act.put]; rfl) wr.heap.size wr
          [isV (.int .i64 (k : Nat)), isV (.slice (some ⟨b, off, none⟩) n c), isV (.int .i64 (n : Nat)), isV (.bool true), isV (.bool true), isV (.slice (some ⟨b, off, none⟩) n c), isV (.int .i64 (k : Nat)), isV (.pointer (some ⟨b, off + k * 4, none⟩)), isV (.agg #[.string q.1, .int .u16 q.2.1, .int .u32 q.2.2.1, .string q.2.2.2]), isV (.agg #[.string r.1, .int .u16 r.2.1, .int .u32 r.2.2.1, .string r.2.2.2]), isV (.int .i64 m), isV (.bool true), isV (.bool true)]
          (by kernel_rfl) (by kernel_rfl) (by kernel_rfl) rfl ?_ (Below.refl _ _) ?_ ?_
        · repeat (first | exact trivial | refine ⟨isV_stays _, ?_⟩)
        · refine ⟨?_, ?_, ?_, ?_, ?_, ?_, ?_, ?_, ?_, ?_, ?_, ?_, ?_, trivial⟩
          all_goals
            intro x wx hR hd
            simp at hd ⊢
          all_goals try simp [hd]
          · go_simp; exact next_same _ rfl rfl hR
          · go_simp; exact next_same _ rfl rfl hR
          · go_simp; exact next_same _ rfl rfl hR
          · go_simp; exact next_same _ rfl rfl hR
          · go_simp; exact next_same _ rfl rfl hR
          · go_simp; exact next_same _ rfl rfl hR
          · go_simp; exact next_same _ rfl rfl hR
          · go_simp; exact next_same _ rfl rfl hR
          · have y0 := (hR.cell (p := ⟨b, off + k * 4, none⟩) HHB.out).trans HZ.out.1
            have y1 := (hR.cell (p := ⟨b, off + k * 4 + 1, none⟩) HHB.out).trans HZ.out.2.1
            have y2 := (hR.cell (p := ⟨b, off + k * 4 + 2, none⟩) HHB.out).trans HZ.out.2.2.1
            have y3 := (hR.cell (p := ⟨b, off + k * 4 + 3, none⟩) HHB.out).trans HZ.out.2.2.2
            go_simp; exact next_same _ rfl rfl hR
          · have hc := HC2.out.below hR
            have c0 := hc.get 0 _
            have c1 := hc.get 1 _
            have c2 := hc.get 2 _
            have c3 := hc.get 3 _
            clear hc
            go_simp; exact next_same _ rfl rfl hR
          · go_simp
            go_at_call 72
            refine (CM.out wx).mono ?_
            rintro e w2 ⟨rfl, hb⟩
            exact next_call _ rfl rfl hR hR.size hb
          · go_simp; exact next_same _ rfl rfl hR
          · go_simp; exact next_same _ rfl rfl hR
        · intro x wx hR hx
          simp [AllWords] at hx
          have h12 : x 12 = .bool true := by simp [hx]
          have HB2 := Lib.hid (below_trans HB.out HB.out.size hR)
          rw [h12]
          clear hx
          go_wp2_with fail
          go_round
          case rel => exact ⟨k + 1, by omega, by go_num, Lib.hid (by rw [List.take_add_one, HQ.out]; intro p hp; exact (List.mem_append.1 hp).elim (fun hp => HK.out p hp) (fun hp => by simp at hp; rw [hp]; unfold lowB; rw [HM.out]; simpa using hm0)), HB2⟩
          case measure => simp [intOf]; omega
      · have HE : Hid (∀ q, rs[k]? = some q → lowB r q = false) := Lib.hid (by
          intro p hp
          rw [HQ.out] at hp
          injection hp with hp
          rw [← hp]
          unfold lowB; rw [HM.out]; simpa using hm0)
        go_upto_region 4 with fail
        refine wp_region_goesG data_follows (fun x => by simp [putsF, Act.put]; rfl) wr.heap.size wr
          [isV (.int .i64 (k : Nat)), isV (.slice (some ⟨b, off, none⟩) n c), isV (.int .i64 (n : Nat)), isV (.bool true), isV (.bool true), isV (.slice (some ⟨b, off, none⟩) n c), isV (.int .i64 (k : Nat)), isV (.pointer (some ⟨b, off + k * 4, none⟩)), isV (.agg #[.string q.1, .int .u16 q.2.1, .int .u32 q.2.2.1, .string q.2.2.2]), isV (.agg #[.string r.1, .int .u16 r.2.1, .int .u32 r.2.2.1, .string r.2.2.2]), isV (.int .i64 m), isV (.bool false), isV (.bool false)]
          (by kernel_rfl) (by kernel_rfl) (by kernel_rfl) rfl ?_ (Below.refl _ _) ?_ ?_
        · repeat (first | exact trivial | refine ⟨isV_stays _, ?_⟩)
        · refine ⟨?_, ?_, ?_, ?_, ?_, ?_, ?_, ?_, ?_, ?_, ?_, ?_, ?_, trivial⟩
          all_goals
            intro x wx hR hd
            simp at hd ⊢
          all_goals try simp [hd]
          · go_simp; exact next_same _ rfl rfl hR
          · go_simp; exact next_same _ rfl rfl hR
          · go_simp; exact next_same _ rfl rfl hR
          · go_simp; exact next_same _ rfl rfl hR
          · go_simp; exact next_same _ rfl rfl hR
          · go_simp; exact next_same _ rfl rfl hR
          · go_simp; exact next_same _ rfl rfl hR
          · go_simp; exact next_same _ rfl rfl hR
          · have y0 := (hR.cell (p := ⟨b, off + k * 4, none⟩) HHB.out).trans HZ.out.1
            have y1 := (hR.cell (p := ⟨b, off + k * 4 + 1, none⟩) HHB.out).trans HZ.out.2.1
            have y2 := (hR.cell (p := ⟨b, off + k * 4 + 2, none⟩) HHB.out).trans HZ.out.2.2.1
            have y3 := (hR.cell (p := ⟨b, off + k * 4 + 3, none⟩) HHB.out).trans HZ.out.2.2.2
            go_simp; exact next_same _ rfl rfl hR
          · have hc := HC2.out.below hR
            have c0 := hc.get 0 _
            have c1 := hc.get 1 _
            have c2 := hc.get 2 _
            have c3 := hc.get 3 _
            clear hc
            go_simp; exact next_same _ rfl rfl hR
          · go_simp
            go_at_call 72
            refine (CM.out wx).mono ?_
            rintro e w2 ⟨rfl, hb⟩
            exact next_call _ rfl rfl hR hR.size hb
          · go_simp; exact next_same _ rfl rfl hR
          · go_simp; exact next_same _ rfl rfl hR
        · intro x wx hR hx
          simp [AllWords] at hx
          have h12 : x 12 = .bool false := by simp [hx]
          have HB2 := Lib.hid (below_trans HB.out HB.out.size hR)
          rw [h12]
          clear hx
          go_upto_region 6 with fail
          have HI := Lib.hid (insR_at HK.out HE.out)
          have HLI := Lib.hid (insR_len rs r)
          have HCX := Lib.hid (HC1.out.below HB2.out)
          have HRX := Lib.hid (HR1.out.below HB2.out)
          have HBX := Lib.hid (below_trans HB1.out HB1.out.size HB2.out)
          obtain ⟨A7, hA7⟩ : ∃ A7 : Option Addr, (if c = k then some ⟨b, off, none⟩ else some ⟨b, off + k * 4, none⟩) = A7 := ⟨_, rfl⟩
          have HR7 : Hid (∀ wy, Below wx.heap.size wx wy → RowROk wy (A7, n - k, c - k, rs.drop k)) := Lib.hid (fun wy hb => by
            rw [← hA7]
            by_cases hck : c = k
            · rw [if_pos hck, List.drop_eq_nil_of_le (by have := HL.out; omega), show n - k = 0 by omega]
              exact RowROk.nothing _ _ _
            · rw [if_neg hck]
              exact (HRX.out.below hb).drop k (by omega) _)
          have hkc : k ≤ c := by omega
          have hkci : (k : Int) ≤ c := by omega
          have hkni : (k : Int) ≤ n := by omega
          have hnci : (n : Int) ≤ c := by omega

          refine wp_region_goesG data_follows (fun x => by simp [putsF, Act.put]; rfl) wx.heap.size wx
            [isV (.slice (some ⟨b, off, none⟩) n c), isV (.int .i64 (k : Nat)), isV (.slice (some ⟨b, off, none⟩) k c), isV (.agg #[.string r.1, .int .u16 r.2.1, .int .u32 r.2.2.1, .string r.2.2.2]), litW 1 (recCells r), isV (.slice (some ⟨b, off, none⟩) n c), isV (.int .i64 (k : Nat)), isV (.slice A7 (n - k) (c - k)), joinW (insR rs r), ownW 4 wx.heap.size wx (n + 1) (flatR (insR rs r)), ownW 4 wx.heap.size wx (n + 1) (flatR (insR rs r)), isV .nilIface]
            (by kernel_rfl) (by kernel_rfl) (by kernel_rfl) rfl ?_ (Below.refl _ _) ?_ ?_
          · repeat (first | exact trivial | refine ⟨by first | exact isV_stays _ | exact litW_stays _ _ | exact joinW_stays _ | exact ownW_stays _ _ _ _ _, ?_⟩)
          · refine ⟨?_, ?_, ?_, ?_, ?_, ?_, ?_, ?_, ?_, ?_, ?_, ?_, trivial⟩
            all_goals
              intro y wy hR hd
              refine ⟨fun _ => ?_, fun hX => by simp at hX⟩
              simp at hd ⊢
            · go_simp; exact next_same _ rfl rfl hR
            · go_simp; exact next_same _ rfl rfl hR
            · obtain ⟨hd0, hd1⟩ := hd; go_simp; exact next_same _ rfl rfl hR
            · have hc := HCX.out.below hR
              have c0 := hc.get 0 _
              have c1 := hc.get 1 _
              have c2 := hc.get 2 _
              have c3 := hc.get 3 _
              clear hc
              go_simp; exact next_same _ rfl rfl hR
            · go_simp; exact next_alloc _ _ rfl (litW_new 1 _ _ _ _) hR hR.size
            · go_simp; exact next_same _ rfl rfl hR
            · go_simp; exact next_same _ rfl rfl hR
            · obtain ⟨hd0, hd1⟩ := hd; go_simp; exact next_same _ rfl rfl hR
            · obtain ⟨hd2, ⟨g4, hx4, hc4⟩, hd7⟩ := hd
              rw [hx4]
              go_simp
              refine next_alloc _ _ rfl ⟨_, rfl, [((some ⟨b, off, none⟩), k, c, rs.take k), (some ⟨g4, 0, none⟩, 1, 1, [r]), (A7, n - k, c - k, rs.drop k)], Sl.fresh _ _ _ 3 _ rfl rfl, ?_, ?_⟩ hR hR.size
              · intro p hp
                simp at hp
                have hb' : Below wy.heap.size wy (wy.alloc (.cells #[.slice (some ⟨b, off, none⟩) k c, .slice (some ⟨g4, 0, none⟩) 1 1, .slice A7 (n - k) (c - k)] 49)) := (Below.refl _ _).alloc (Nat.le_refl _) _
                rcases hp with rfl | rfl | rfl
                · exact (((HRX.out.below hR).take k (by omega) c).below hb')
                · exact (RowROk.one hc4).below hb'
                · exact (HR7.out _ hR).below hb'
              · show rs.take k ++ ([r] ++ (rs.drop k ++ [])) = insR rs r
                rw [HI.out]; simp
            · obtain ⟨g8, hx8, rows, hS, hok, hall⟩ := hd
              rw [hx8]
              go_simp
              go_at_call 71
              refine (concat_any _ 3 3 rows wy hS (by decide) hok (by rw [hall, HLI.out, HL.out]; omega)).mono ?_
              rintro e w2 ⟨v, rfl, ho⟩
              rw [hall, HLI.out, HL.out] at ho
              exact next_call _ rfl (ho.out hR.size hR) hR hR.size ho.bel
            · have hd9 : ownW 4 wx.heap.size wx (n + 1) (flatR (insR rs r)) (y 9) wy := by first | exact hd | exact hd.1
              go_simp; exact next_same _ rfl hd9 hR
            · go_simp; exact next_same _ rfl rfl hR
          · intro y wy hR hy
            obtain ⟨-, -, -, -, -, -, -, -, -, -, ho, h11, -⟩ := hy
            have h11 : y 11 = .nilIface := h11
            unfold ownW at ho
            obtain ⟨AF, cF, hF, -, -, -⟩ := ho.slice
            have HF := Lib.hid (ho.out HBX.out.size HBX.out)
            rw [hF] at HF
            rw [hF, h11]
            clear ho hF h11 hR
            go_wp2_with fail
            refine bodyPost_ret (v := .tuple #[.slice AF (n + 1) cF, .nilIface]) (by simp [results, Tryd.results54, go_sem]) rfl ⟨_, rfl, HF.out⟩
    · obtain rfl : k = n := by omega
      have hlt' : ¬ (k : Int) < k := by omega
      have HE : Hid (∀ q, rs[k]? = some q → lowB r q = false) := Lib.hid (by
        intro p hp
        have := (List.getElem?_eq_some_iff.1 hp).1
        have := HL.out
        omega)
      go_upto_region 4 with fail
      refine wp_region_goesG data_follows (fun x => by simp [putsF, Act.put]; rfl) wr.heap.size wr
        [isV (.int .i64 (k : Nat)), isV (.slice A k c), isV (.int .i64 (k : Nat)), isV (.bool false), isV (.bool false), isV undef, isV undef, isV undef, isV undef, isV undef, isV undef, isV undef, isV (.bool false)]
        (by kernel_rfl) (by kernel_rfl) (by kernel_rfl) rfl ?_ (Below.refl _ _) ?_ ?_
      · repeat (first | exact trivial | refine ⟨isV_stays _, ?_⟩)
      · refine ⟨?_, ?_, ?_, ?_, ?_, ?_, ?_, ?_, ?_, ?_, ?_, ?_, ?_, trivial⟩
        all_goals
          intro x wx hR hd
          simp at hd ⊢
        all_goals try simp [hd]
        · go_simp; exact next_same _ rfl rfl hR
        · go_simp; exact next_same _ rfl rfl hR
        · go_simp; exact next_same _ rfl rfl hR
        · go_simp; exact next_same _ rfl rfl hR
        · go_simp; exact next_same _ rfl rfl hR
        · go_simp; exact next_same _ rfl rfl hR
      · intro x wx hR hx
        simp [AllWords] at hx
        have h12 : x 12 = .bool false := by simp [hx]
        have HB2 := Lib.hid (below_trans HB.out HB.out.size hR)
        rw [h12]
        clear hx
        cases A with
        | none =>
          obtain ⟨hk0, hc0⟩ := hA rfl
          have HK0 := Lib.hid (And.intro hk0 hc0)
          clear hk0 hc0 hA
          go_upto_region 6 with fail
          have HI := Lib.hid (insR_at HK.out HE.out)
          have HLI := Lib.hid (insR_len rs r)
          have HCX := Lib.hid (HC1.out.below HB2.out)
          have HRX := Lib.hid (HR1.out.below HB2.out)
          have HBX := Lib.hid (below_trans HB1.out HB1.out.size HB2.out)
          have HR7 : Hid (∀ wy, Below wx.heap.size wx wy → RowROk wy (none, 0, c - k, rs.drop k)) := Lib.hid (fun wy hb => by
            have hd : rs.drop k = [] := List.drop_eq_nil_of_le (by have := HL.out; omega)
            rw [hd]; exact RowROk.nothing _ _ _)
          have hkc : k ≤ c := by omega
          have hkci : (k : Int) ≤ c := by omega

          refine wp_region_goesG data_follows (fun x => by simp [putsF, Act.put]; rfl) wx.heap.size wx
            [isV (.slice none k c), isV (.int .i64 (k : Nat)), isV (.slice none k c), isV (.agg #[.string r.1, .int .u16 r.2.1, .int .u32 r.2.2.1, .string r.2.2.2]), litW 1 (recCells r), isV (.slice none k c), isV (.int .i64 (k : Nat)), isV (.slice none 0 (c - k)), joinW (insR rs r), ownW 4 wx.heap.size wx (k + 1) (flatR (insR rs r)), ownW 4 wx.heap.size wx (k + 1) (flatR (insR rs r)), isV .nilIface]
            (by kernel_rfl) (by kernel_rfl) (by kernel_rfl) rfl ?_ (Below.refl _ _) ?_ ?_
          · repeat (first | exact trivial | refine ⟨by first | exact isV_stays _ | exact litW_stays _ _ | exact joinW_stays _ | exact ownW_stays _ _ _ _ _, ?_⟩)
          · refine ⟨?_, ?_, ?_, ?_, ?_, ?_, ?_, ?_, ?_, ?_, ?_, ?_, trivial⟩
            all_goals
              intro y wy hR hd
              refine ⟨fun _ => ?_, fun hX => by simp at hX⟩
              simp at hd ⊢
            · go_simp; exact next_same _ rfl rfl hR
            · go_simp; exact next_same _ rfl rfl hR
            · obtain ⟨hd0, hd1⟩ := hd; go_simp; exact next_same _ rfl rfl hR
            · have hc := HCX.out.below hR
              have c0 := hc.get 0 _
              have c1 := hc.get 1 _
              have c2 := hc.get 2 _
              have c3 := hc.get 3 _
              clear hc
              go_simp; exact next_same _ rfl rfl hR
            · go_simp; exact next_alloc _ _ rfl (litW_new 1 _ _ _ _) hR hR.size
            · go_simp; exact next_same _ rfl rfl hR
            · go_simp; exact next_same _ rfl rfl hR
            · obtain ⟨hd0, hd1⟩ := hd; go_simp; exact next_same _ rfl rfl hR
            · obtain ⟨hd2, ⟨g4, hx4, hc4⟩, hd7⟩ := hd
              rw [hx4]
              go_simp
              refine next_alloc _ _ rfl ⟨_, rfl, [(none, k, c, rs.take k), (some ⟨g4, 0, none⟩, 1, 1, [r]), (none, 0, c - k, rs.drop k)], Sl.fresh _ _ _ 3 _ rfl rfl, ?_, ?_⟩ hR hR.size
              · intro p hp
                simp at hp
                have hb' : Below wy.heap.size wy (wy.alloc (.cells #[.slice none k c, .slice (some ⟨g4, 0, none⟩) 1 1, .slice none 0 (c - k)] 49)) := (Below.refl _ _).alloc (Nat.le_refl _) _
                rcases hp with rfl | rfl | rfl
                · exact (((HRX.out.below hR).take k (by omega) c).below hb')
                · exact (RowROk.one hc4).below hb'
                · exact (HR7.out _ hR).below hb'
              · show rs.take k ++ ([r] ++ (rs.drop k ++ [])) = insR rs r
                rw [HI.out]; simp
            · obtain ⟨g8, hx8, rows, hS, hok, hall⟩ := hd
              rw [hx8]
              go_simp
              go_at_call 71
              refine (concat_any _ 3 3 rows wy hS (by decide) hok (by rw [hall, HLI.out, HL.out]; omega)).mono ?_
              rintro e w2 ⟨v, rfl, ho⟩
              rw [hall, HLI.out, HL.out] at ho
              exact next_call _ rfl (ho.out hR.size hR) hR hR.size ho.bel
            · have hd9 : ownW 4 wx.heap.size wx (k + 1) (flatR (insR rs r)) (y 9) wy := by first | exact hd | exact hd.1
              go_simp; exact next_same _ rfl hd9 hR
            · go_simp; exact next_same _ rfl rfl hR
          · intro y wy hR hy
            obtain ⟨-, -, -, -, -, -, -, -, -, -, ho, h11, -⟩ := hy
            have h11 : y 11 = .nilIface := h11
            unfold ownW at ho
            obtain ⟨AF, cF, hF, -, -, -⟩ := ho.slice
            have HF := Lib.hid (ho.out HBX.out.size HBX.out)
            rw [hF] at HF
            rw [hF, h11]
            clear ho hF h11 hR
            go_wp2_with fail
            refine bodyPost_ret (v := .tuple #[.slice AF (k + 1) cF, .nilIface]) (by simp [results, Tryd.results54, go_sem]) rfl ⟨_, rfl, HF.out⟩
        | some a =>
          rcases Nat.eq_zero_or_pos k with hk0 | hk0
          · have HK0 := Lib.hid hk0
            go_upto_region 6 with fail
            have HI := Lib.hid (insR_at HK.out HE.out)
            have HLI := Lib.hid (insR_len rs r)
            have HCX := Lib.hid (HC1.out.below HB2.out)
            have HRX := Lib.hid (HR1.out.below HB2.out)
            have HBX := Lib.hid (below_trans HB1.out HB1.out.size HB2.out)
            obtain ⟨A7, hA7⟩ : ∃ A7 : Option Addr, (if c = k then some a else some (a.add (k * 4))) = A7 := ⟨_, rfl⟩
            have HR7 : Hid (∀ wy, Below wx.heap.size wx wy → RowROk wy (A7, 0, c - k, rs.drop k)) := Lib.hid (fun wy hb => by
              have hd : rs.drop k = [] := List.drop_eq_nil_of_le (by have := HL.out; omega)
              rw [hd]; exact RowROk.nothing _ _ _)
            have hkc : k ≤ c := by omega
            have hkci : (k : Int) ≤ c := by omega
            clear hk0

            refine wp_region_goesG data_follows (fun x => by simp [putsF, Act.put]; rfl) wx.heap.size wx
              [isV (.slice (some a) k c), isV (.int .i64 (k : Nat)), isV (.slice (some a) k c), isV (.agg #[.string r.1, .int .u16 r.2.1, .int .u32 r.2.2.1, .string r.2.2.2]), litW 1 (recCells r), isV (.slice (some a) k c), isV (.int .i64 (k : Nat)), isV (.slice A7 0 (c - k)), joinW (insR rs r), ownW 4 wx.heap.size wx (k + 1) (flatR (insR rs r)), ownW 4 wx.heap.size wx (k + 1) (flatR (insR rs r)), isV .nilIface]
              (by kernel_rfl) (by kernel_rfl) (by kernel_rfl) rfl ?_ (Below.refl _ _) ?_ ?_
            · repeat (first | exact trivial | refine ⟨by first | exact isV_stays _ | exact litW_stays _ _ | exact joinW_stays _ | exact ownW_stays _ _ _ _ _, ?_⟩)
            · refine ⟨?_, ?_, ?_, ?_, ?_, ?_, ?_, ?_, ?_, ?_, ?_, ?_, trivial⟩
              all_goals
                intro y wy hR hd
                refine ⟨fun _ => ?_, fun hX => by simp at hX⟩
                simp at hd ⊢
              · go_simp; exact next_same _ rfl rfl hR
              · go_simp; exact next_same _ rfl rfl hR
              · obtain ⟨hd0, hd1⟩ := hd; go_simp; exact next_same _ rfl rfl hR
              · have hc := HCX.out.below hR
                have c0 := hc.get 0 _
                have c1 := hc.get 1 _
                have c2 := hc.get 2 _
                have c3 := hc.get 3 _
                clear hc
                go_simp; exact next_same _ rfl rfl hR
              · go_simp; exact next_alloc _ _ rfl (litW_new 1 _ _ _ _) hR hR.size
              · go_simp; exact next_same _ rfl rfl hR
              · go_simp; exact next_same _ rfl rfl hR
              · obtain ⟨hd0, hd1⟩ := hd; go_simp; exact next_same _ rfl rfl hR
              · obtain ⟨hd2, ⟨g4, hx4, hc4⟩, hd7⟩ := hd
                rw [hx4]
                go_simp
                refine next_alloc _ _ rfl ⟨_, rfl, [((some a), k, c, rs.take k), (some ⟨g4, 0, none⟩, 1, 1, [r]), (A7, 0, c - k, rs.drop k)], Sl.fresh _ _ _ 3 _ rfl rfl, ?_, ?_⟩ hR hR.size
                · intro p hp
                  simp at hp
                  have hb' : Below wy.heap.size wy (wy.alloc (.cells #[.slice (some a) k c, .slice (some ⟨g4, 0, none⟩) 1 1, .slice A7 0 (c - k)] 49)) := (Below.refl _ _).alloc (Nat.le_refl _) _
                  rcases hp with rfl | rfl | rfl
                  · exact (((HRX.out.below hR).take k (by omega) c).below hb')
                  · exact (RowROk.one hc4).below hb'
                  · exact (HR7.out _ hR).below hb'
                · show rs.take k ++ ([r] ++ (rs.drop k ++ [])) = insR rs r
                  rw [HI.out]; simp
              · obtain ⟨g8, hx8, rows, hS, hok, hall⟩ := hd
                rw [hx8]
                go_simp
                go_at_call 71
                refine (concat_any _ 3 3 rows wy hS (by decide) hok (by rw [hall, HLI.out, HL.out]; omega)).mono ?_
                rintro e w2 ⟨v, rfl, ho⟩
                rw [hall, HLI.out, HL.out] at ho
                exact next_call _ rfl (ho.out hR.size hR) hR hR.size ho.bel
              · have hd9 : ownW 4 wx.heap.size wx (k + 1) (flatR (insR rs r)) (y 9) wy := by first | exact hd | exact hd.1
                go_simp; exact next_same _ rfl hd9 hR
              · go_simp; exact next_same _ rfl rfl hR
            · intro y wy hR hy
              obtain ⟨-, -, -, -, -, -, -, -, -, -, ho, h11, -⟩ := hy
              have h11 : y 11 = .nilIface := h11
              unfold ownW at ho
              obtain ⟨AF, cF, hF, -, -, -⟩ := ho.slice
              have HF := Lib.hid (ho.out HBX.out.size HBX.out)
              rw [hF] at HF
              rw [hF, h11]
              clear ho hF h11 hR
              go_wp2_with fail
              refine bodyPost_ret (v := .tuple #[.slice AF (k + 1) cF, .nilIface]) (by simp [results, Tryd.results54, go_sem]) rfl ⟨_, rfl, HF.out⟩
          · obtain ⟨b, off, he, -, -⟩ := HR1.out.sl.2 hk0
            dsimp only at he
            injection he with he
            subst he
            go_upto_region 6 with fail
            have HI := Lib.hid (insR_at HK.out HE.out)
            have HLI := Lib.hid (insR_len rs r)
            have HCX := Lib.hid (HC1.out.below HB2.out)
            have HRX := Lib.hid (HR1.out.below HB2.out)
            have HBX := Lib.hid (below_trans HB1.out HB1.out.size HB2.out)
            obtain ⟨A7, hA7⟩ : ∃ A7 : Option Addr, (if c = k then some ⟨b, off, none⟩ else some ⟨b, off + k * 4, none⟩) = A7 := ⟨_, rfl⟩
            have HR7 : Hid (∀ wy, Below wx.heap.size wx wy → RowROk wy (A7, 0, c - k, rs.drop k)) := Lib.hid (fun wy hb => by
              rw [← hA7]
              by_cases hck : c = k
              · rw [if_pos hck, List.drop_eq_nil_of_le (by have := HL.out; omega)]
                exact RowROk.nothing _ _ _
              · rw [if_neg hck]
                have := (HRX.out.below hb).drop k (by omega) (c - k)
                rwa [Nat.sub_self] at this)
            have hkc : k ≤ c := by omega
            have hkci : (k : Int) ≤ c := by omega
            have hkni : (k : Int) ≤ k := by omega
            have hnci : (k : Int) ≤ c := by omega

            refine wp_region_goesG data_follows (fun x => by simp [putsF, Act.put]; rfl) wx.heap.size wx
              [isV (.slice (some ⟨b, off, none⟩) k c), isV (.int .i64 (k : Nat)), isV (.slice (some ⟨b, off, none⟩) k c), isV (.agg #[.string r.1, .int .u16 r.2.1, .int .u32 r.2.2.1, .string r.2.2.2]), litW 1 (recCells r), isV (.slice (some ⟨b, off, none⟩) k c), isV (.int .i64 (k : Nat)), isV (.slice A7 0 (c - k)), joinW (insR rs r), ownW 4 wx.heap.size wx (k + 1) (flatR (insR rs r)), ownW 4 wx.heap.size wx (k + 1) (flatR (insR rs r)), isV .nilIface]
              (by kernel_rfl) (by kernel_rfl) (by kernel_rfl) rfl ?_ (Below.refl _ _) ?_ ?_
            · repeat (first | exact trivial | refine ⟨by first | exact isV_stays _ | exact litW_stays _ _ | exact joinW_stays _ | exact ownW_stays _ _ _ _ _, ?_⟩)
            · refine ⟨?_, ?_, ?_, ?_, ?_, ?_, ?_, ?_, ?_, ?_, ?_, ?_, trivial⟩
              all_goals
                intro y wy hR hd
                refine ⟨fun _ => ?_, fun hX => by simp at hX⟩
                simp at hd ⊢
              · go_simp; exact next_same _ rfl rfl hR
              · go_simp; exact next_same _ rfl rfl hR
              · obtain ⟨hd0, hd1⟩ := hd; go_simp; exact next_same _ rfl rfl hR
              · have hc := HCX.out.below hR
                have c0 := hc.get 0 _
                have c1 := hc.get 1 _
                have c2 := hc.get 2 _
                have c3 := hc.get 3 _
                clear hc
                go_simp; exact next_same _ rfl rfl hR
              · go_simp; exact next_alloc _ _ rfl (litW_new 1 _ _ _ _) hR hR.size
              · go_simp; exact next_same _ rfl rfl hR
              · go_simp; exact next_same _ rfl rfl hR
              · obtain ⟨hd0, hd1⟩ := hd; go_simp; exact next_same _ rfl rfl hR
              · obtain ⟨hd2, ⟨g4, hx4, hc4⟩, hd7⟩ := hd
                rw [hx4]
                go_simp
                refine next_alloc _ _ rfl ⟨_, rfl, [((some ⟨b, off, none⟩), k, c, rs.take k), (some ⟨g4, 0, none⟩, 1, 1, [r]), (A7, 0, c - k, rs.drop k)], Sl.fresh _ _ _ 3 _ rfl rfl, ?_, ?_⟩ hR hR.size
                · intro p hp
                  simp at hp
                  have hb' : Below wy.heap.size wy (wy.alloc (.cells #[.slice (some ⟨b, off, none⟩) k c, .slice (some ⟨g4, 0, none⟩) 1 1, .slice A7 0 (c - k)] 49)) := (Below.refl _ _).alloc (Nat.le_refl _) _
                  rcases hp with rfl | rfl | rfl
                  · exact (((HRX.out.below hR).take k (by omega) c).below hb')
                  · exact (RowROk.one hc4).below hb'
                  · exact (HR7.out _ hR).below hb'
                · show rs.take k ++ ([r] ++ (rs.drop k ++ [])) = insR rs r
                  rw [HI.out]; simp
              · obtain ⟨g8, hx8, rows, hS, hok, hall⟩ := hd
                rw [hx8]
                go_simp
                go_at_call 71
                refine (concat_any _ 3 3 rows wy hS (by decide) hok (by rw [hall, HLI.out, HL.out]; omega)).mono ?_
                rintro e w2 ⟨v, rfl, ho⟩
                rw [hall, HLI.out, HL.out] at ho
                exact next_call _ rfl (ho.out hR.size hR) hR hR.size ho.bel
              · have hd9 : ownW 4 wx.heap.size wx (k + 1) (flatR (insR rs r)) (y 9) wy := by first | exact hd | exact hd.1
                go_simp; exact next_same _ rfl hd9 hR
              · go_simp; exact next_same _ rfl rfl hR
            · intro y wy hR hy
              obtain ⟨-, -, -, -, -, -, -, -, -, -, ho, h11, -⟩ := hy
              have h11 : y 11 = .nilIface := h11
              unfold ownW at ho
              obtain ⟨AF, cF, hF, -, -, -⟩ := ho.slice
              have HF := Lib.hid (ho.out HBX.out.size HBX.out)
              rw [hF] at HF
              rw [hF, h11]
              clear ho hF h11 hR
              go_wp2_with fail
              refine bodyPost_ret (v := .tuple #[.slice AF (k + 1) cF, .nilIface]) (by simp [results, Tryd.results54, go_sem]) rfl ⟨_, rfl, HF.out⟩
end Go.Proofs.YtpbbnpglcadimaaDoor
