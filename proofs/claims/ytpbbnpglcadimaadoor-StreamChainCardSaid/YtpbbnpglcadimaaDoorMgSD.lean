/- Texts that walks stand on, one behind the other. -/
import Derived.Test.YtpbbnpglcadimaaDoorMgSC
import Derived.Test.YtpbbnpglcadimaaDoorView
import Derived.Test.YtpbbnpglcadimaaDoorMgSB
import Derived.Outline
namespace Go.Proofs.YtpbbnpglcadimaaDoor
open Go.RowKit
set_option linter.unusedVariables false
set_option linter.unusedSimpArgs false
set_option maxRecDepth 20000
attribute [local simp] putsF isV wordOf Deps Region.binds Region.wanted Act.put wantedX isB
def lowB (r q : RecT) : Bool := decide (cmpR q r < 0)
/-- Records with one more, where it stands. -/
def insR (rs : List RecT) (r : RecT) : List RecT := rs.takeWhile (lowB r) ++ r :: rs.dropWhile (lowB r)
theorem take_while {rs : List RecT} {r : RecT} {k : Nat} (h : ∀ q ∈ rs.take k, lowB r q = true) (he : ∀ q, rs[k]? = some q → lowB r q = false) : rs.takeWhile (lowB r) = rs.take k ∧ rs.dropWhile (lowB r) = rs.drop k := by
  induction rs generalizing k with
  | nil => simp
  | cons q rs ih =>
    cases k with
    | zero =>
      have := he q rfl
      simp [this]
    | succ k =>
      have hq := h q (by simp)
      have := ih (k := k) (fun p hp => h p (by simp [hp])) (fun p hp => he p (by simpa using hp))
      simp [hq, this]
theorem insR_at {rs : List RecT} {r : RecT} {k : Nat} (h : ∀ q ∈ rs.take k, lowB r q = true) (he : ∀ q, rs[k]? = some q → lowB r q = false) : insR rs r = rs.take k ++ r :: rs.drop k := by
  obtain ⟨h1, h2⟩ := take_while h he
  unfold insR; rw [h1, h2]
theorem insR_len (rs : List RecT) (r : RecT) : (insR rs r).length = rs.length + 1 := by
  have h : (rs.takeWhile (lowB r) ++ rs.dropWhile (lowB r)).length = rs.length := by rw [List.takeWhile_append_dropWhile]
  rw [List.length_append] at h
  unfold insR
  rw [List.length_append, List.length_cons]; omega
/-- A slice's beginning, and its rest, are rows. -/
theorem RowROk.take {w : World} {A : Option Addr} {n c : Nat} {rs : List RecT} (h : RowROk w (A, n, c, rs)) (k : Nat) (hk : k ≤ n) (c' : Nat) : RowROk w (A, k, c', rs.take k) := by
  have hl := h.len
  dsimp only at hl
  refine ⟨⟨by rw [flatR_len]; simp; omega, fun hk0 => ?_⟩, fun e => by have := h.none_ e; dsimp only at this ⊢; omega, by simp; omega⟩
  obtain ⟨b, off, e, hb, hc⟩ := h.sl.2 (by dsimp only at hk0 ⊢; omega)
  refine ⟨b, off, e, hb, fun j u hu => hc j u ?_⟩
  have hf : flatR rs = flatR (rs.take k) ++ flatR (rs.drop k) := by rw [← flatR_append, List.take_append_drop]
  rw [hf, List.getElem?_append_left (List.getElem?_eq_some_iff.1 hu).1]
  exact hu
theorem RowROk.drop {w : World} {b off : Nat} {n c : Nat} {rs : List RecT} (h : RowROk w (some ⟨b, off, none⟩, n, c, rs)) (k : Nat) (hk : k ≤ n) (c' : Nat) : RowROk w (some ⟨b, off + k * 4, none⟩, n - k, c', rs.drop k) := by
  have hl := h.len
  dsimp only at hl
  refine ⟨⟨by rw [flatR_len]; simp; omega, fun hk0 => ?_⟩, fun e => (by cases e), (by simp; omega)⟩
  obtain ⟨b', off', e, hb, hc⟩ := h.sl.2 (by dsimp only at hk0 ⊢; omega)
  injection e with e; injection e with e1 e2; subst e1 e2
  refine ⟨b, off + k * 4, rfl, hb, fun j u hu => ?_⟩
  have hf : flatR rs = flatR (rs.take k) ++ flatR (rs.drop k) := by rw [← flatR_append, List.take_append_drop]
  have hlen : (flatR (rs.take k)).length = k * 4 := by rw [flatR_len]; simp; omega
  have := hc (k * 4 + j) u (by rw [hf, List.getElem?_append_right (by omega), hlen]; simpa using hu)
  rwa [← Nat.add_assoc] at this
theorem RowROk.nothing (w : World) (A : Option Addr) (c : Nat) : RowROk w (A, 0, c, []) := ⟨Sl.nil _ _ _ _, fun _ => rfl, rfl⟩
theorem RowROk.one {w : World} {g : Nat} {r : RecT} (h : Cs w g (recCells r)) : RowROk w (some ⟨g, 0, none⟩, 1, 1, [r]) :=
  ⟨⟨rfl, fun _ => ⟨g, 0, rfl, h.lt, fun j u hu => by rw [Nat.zero_add]; exact h.get j u (by simpa [flatR] using hu)⟩⟩, fun e => (by cases e), rfl⟩
/-- Three rows that are some records, one behind the other. -/
def joinW (L : List RecT) : Value → World → Prop := fun v w => ∃ g, v = .slice (some ⟨g, 0, none⟩) 3 3 ∧ ∃ rows : List RowR, Sl w w.heap.size 1 (some ⟨g, 0, none⟩) 3 (rows.map rowRV) ∧ (∀ r ∈ rows, RowROk w r) ∧ allR rows = L
theorem joinW_stays (L : List RecT) : ∀ v w w', joinW L v w → Goes w w' → joinW L v w' := by
  rintro v w w' ⟨g, rfl, rows, hS, hok, hL⟩ hb
  exact ⟨g, rfl, rows, (hS.below hb).more hb.size, fun r hr => (hok r hr).below hb, hL⟩
set_option maxHeartbeats 3200000 in
theorem insert_new (A : Option Addr) (n c : Nat) (rs : List RecT) (r : RecT) (w : World) (h : RowROk w (A, n, c, rs)) (hA : A = none → n = 0 ∧ c = 0) (hnc : n ≤ c) (hcm : c ≤ maxLen) (hn : n ≤ 100000) (hr : r ∉ rs) :
    Calls Tryd.prog 54 #[.slice A n c, recV r] w fun e w' => ∃ v, e = .returned (.tuple #[v, .nilIface]) ∧ OBM 4 w.heap.size w v (n + 1) (flatR (insR rs r)) w' := by
  have hl : rs.length = n := h.len
  obtain ⟨W, hW⟩ : ∃ W, W = w.alloc (.cells #[.string r.1, .int .u16 r.2.1, .int .u32 r.2.2.1, .string r.2.2.2] 41) := ⟨_, rfl⟩
  have hC : Cs W w.heap.size [.string r.1, .int .u16 r.2.1, .int .u32 r.2.2.1, .string r.2.2.2] := by rw [hW]; exact Cs.new w _ _ _
  have hbW : Below w.heap.size w W := by rw [hW]; exact (Below.refl _ _).alloc (Nat.le_refl _) _
  have HAS := Lib.hid (fun w h => has_any A n c rs r w h hl (by unfold maxLen; omega))
  have hf := hasB_false.2 hr
  rw [hf] at HAS
  have HW := Lib.hid hW
  have HC := Lib.hid hC
  have HBW := Lib.hid hbW
  have HR := Lib.hid (h.below hbW)
  have HL := Lib.hid hl
  unfold recV at HAS ⊢
  obtain ⟨g, hg⟩ : ∃ g, g = w.heap.size := ⟨_, rfl⟩
  rw [← hg] at HC
  have HG := Lib.hid hg
  clear h hW hC hbW hl hf hr hg
  go_enter Tryd.func54, Tryd.ntmps54
  go_wp2_with fail
  rw [← HW.out, ← HG.out]
  refine (HAS.out W (HR.out.sl.recs (Nat.le_refl _) HL.out)).mono ?_
  rintro e w1 ⟨rfl, hb1⟩
  have HC1 := Lib.hid (HC.out.below hb1)
  have HR1 := Lib.hid (HR.out.below hb1)
  have HB1 := Lib.hid (below_trans HBW.out HBW.out.size hb1)
  clear hb1 HAS
  go_wp2_with fail
  go_loopw [6] (fun i wr => ∃ k : Nat, k ≤ n ∧ i = .int .i64 k ∧ Hid (∀ q ∈ rs.take k, lowB r q = true) ∧ Hid (Below w1.heap.size w1 wr)) (fun i _ => n - (intOf i).toNat)
  case atStart => exact ⟨0, Nat.zero_le _, rfl, Lib.hid (by simp), Lib.hid (Below.refl _ _)⟩
  case round =>
    obtain ⟨k, hk, rfl, HK, HB⟩ := hrel
    by_cases hlt : k < n
    · have hlt' : (k : Int) < n := by omega
      obtain ⟨q, hq⟩ : ∃ q, rs[k]? = some q := ⟨_, List.getElem?_eq_getElem (by rw [HL.out]; exact hlt)⟩
      obtain ⟨b, off, he, hb, z0, z1, z2, z3⟩ := ((HR1.out.below HB.out).sl.recs (Nat.le_refl _) HL.out) k _ hq
      dsimp only at he
      subst he
      have HZ := Lib.hid (And.intro z0 (And.intro z1 (And.intro z2 z3)))
      have HQ := Lib.hid hq
      have HHB := Lib.hid hb
      obtain ⟨m, hm⟩ : ∃ m, cmpR q r = m := ⟨_, rfl⟩
      have CM := Lib.hid (fun w => compare_any q r w)
      rw [hm] at CM
      unfold recV at CM
      have HM := Lib.hid hm
      have HC2 := Lib.hid (HC1.out.below HB.out)
      clear hq hb z0 z1 z2 z3 hm
      by_cases hm0 : m < 0
      · go_upto_region 4 with fail
        refine wp_region_goesG data_follows (fun x => by simp [putsF, Act.put]; rfl) wr.heap.size wr
          [isV (.int .i64 (k : Nat)), isV (.slice (some ⟨b, off, none⟩) n c), isV (.int .i64 (n : Nat)), isV (.bool true), isV (.bool true), isV (.slice (some ⟨b, off, none⟩) n c), isV (.int .i64 (k : Nat)), isV (.pointer (some ⟨b, off + k * 4, none⟩)), isV (.agg #[.string q.1, .int .u16 q.2.1, .int .u32 q.2.2.1, .string q.2.2.2]), isV (.agg #[.string r.1, .int .u16 r.2.1, .int .u32 r.2.2.1, .string r.2.2.2]), isV (.int .i64 m), isV (.bool true), isV (.bool true)]
          (by kernel_rfl) (by kernel_rfl) (by kernel_rfl) rfl ?_ (Below.refl _ _) ?_ ?_
        · repeat (first | exact trivial | refine ⟨isV_stays _, ?_⟩)
        · refine ⟨?_, ?_, ?_, ?_, ?_, ?_, ?_, ?_, ?_, ?_, ?_, ?_, ?_, trivial⟩
          all_goals
            intro x wx hR hd
            simp at hd ⊢
          all_goals try simp [hd]
          · go_simp; exact next_same _ rfl rfl hR
          · go_simp; exact next_same _ rfl rfl hR
          · go_simp; exact next_same _ rfl rfl hR
          · go_simp; exact next_same _ rfl rfl hR
          · go_simp; exact next_same _ rfl rfl hR
          · go_simp; exact next_same _ rfl rfl hR
          · go_simp; exact next_same _ rfl rfl hR
          · go_simp; exact next_same _ rfl rfl hR
          · have y0 := (hR.cell (p := ⟨b, off + k * 4, none⟩) HHB.out).trans HZ.out.1
            have y1 := (hR.cell (p := ⟨b, off + k * 4 + 1, none⟩) HHB.out).trans HZ.out.2.1
            have y2 := (hR.cell (p := ⟨b, off + k * 4 + 2, none⟩) HHB.out).trans HZ.out.2.2.1
            have y3 := (hR.cell (p := ⟨b, off + k * 4 + 3, none⟩) HHB.out).trans HZ.out.2.2.2
            go_simp; exact next_same _ rfl rfl hR
          · have hc := HC2.out.below hR
            have c0 := hc.get 0 _
            have c1 := hc.get 1 _
            have c2 := hc.get 2 _
            have c3 := hc.get 3 _
            clear hc
            go_simp; exact next_same _ rfl rfl hR
          · go_simp
            go_at_call 72
            refine (CM.out wx).mono ?_
            rintro e w2 ⟨rfl, hb⟩
            exact next_call _ rfl rfl hR hR.size hb
          · go_simp; exact next_same _ rfl rfl hR
          · go_simp; exact next_same _ rfl rfl hR
        · intro x wx hR hx
          simp [AllWords] at hx
          have h12 : x 12 = .bool true := by simp [hx]
          have HB2 := Lib.hid (below_trans HB.out HB.out.size hR)
          rw [h12]
          clear hx
          go_wp2_with fail
          go_round
          case rel => exact ⟨k + 1, by omega, by go_num, Lib.hid (by rw [List.take_add_one, HQ.out]; intro p hp; exact (List.mem_append.1 hp).elim (fun hp => HK.out p hp) (fun hp => by simp at hp; rw [hp]; unfold lowB; rw [HM.out]; simpa using hm0)), HB2⟩
          case measure => simp [intOf]; omega
      · have HE : Hid (∀ q, rs[k]? = some q → lowB r q = false) := Lib.hid (by
          intro p hp
          rw [HQ.out] at hp
          injection hp with hp
          rw [← hp]
          unfold lowB; rw [HM.out]; simpa using hm0)
        go_upto_region 4 with fail
        refine wp_region_goesG data_follows (fun x => by simp [putsF, Act.put]; rfl) wr.heap.size wr
          [isV (.int .i64 (k : Nat)), isV (.slice (some ⟨b, off, none⟩) n c), isV (.int .i64 (n : Nat)), isV (.bool true), isV (.bool true), isV (.slice (some ⟨b, off, none⟩) n c), isV (.int .i64 (k : Nat)), isV (.pointer (some ⟨b, off + k * 4, none⟩)), isV (.agg #[.string q.1, .int .u16 q.2.1, .int .u32 q.2.2.1, .string q.2.2.2]), isV (.agg #[.string r.1, .int .u16 r.2.1, .int .u32 r.2.2.1, .string r.2.2.2]), isV (.int .i64 m), isV (.bool false), isV (.bool false)]
          (by kernel_rfl) (by kernel_rfl) (by kernel_rfl) rfl ?_ (Below.refl _ _) ?_ ?_
        · repeat (first | exact trivial | refine ⟨isV_stays _, ?_⟩)
        · refine ⟨?_, ?_, ?_, ?_, ?_, ?_, ?_, ?_, ?_, ?_, ?_, ?_, ?_, trivial⟩
          all_goals
            intro x wx hR hd
            simp at hd ⊢
          all_goals try simp [hd]
          · go_simp; exact next_same _ rfl rfl hR
          · go_simp; exact next_same _ rfl rfl hR
          · go_simp; exact next_same _ rfl rfl hR
          · go_simp; exact next_same _ rfl rfl hR
          · go_simp; exact next_same _ rfl rfl hR
          · go_simp; exact next_same _ rfl rfl hR
          · go_simp; exact next_same _ rfl rfl hR
          · go_simp; exact next_same _ rfl rfl hR
          · have y0 := (hR.cell (p := ⟨b, off + k * 4, none⟩) HHB.out).trans HZ.out.1
            have y1 := (hR.cell (p := ⟨b, off + k * 4 + 1, none⟩) HHB.out).trans HZ.out.2.1
            have y2 := (hR.cell (p := ⟨b, off + k * 4 + 2, none⟩) HHB.out).trans HZ.out.2.2.1
            have y3 := (hR.cell (p := ⟨b, off + k * 4 + 3, none⟩) HHB.out).trans HZ.out.2.2.2
            go_simp; exact next_same _ rfl rfl hR
          · have hc := HC2.out.below hR
            have c0 := hc.get 0 _
            have c1 := hc.get 1 _
            have c2 := hc.get 2 _
            have c3 := hc.get 3 _
            clear hc
            go_simp; exact next_same _ rfl rfl hR
          · go_simp
            go_at_call 72
            refine (CM.out wx).mono ?_
            rintro e w2 ⟨rfl, hb⟩
            exact next_call _ rfl rfl hR hR.size hb
          · go_simp; exact next_same _ rfl rfl hR
          · go_simp; exact next_same _ rfl rfl hR
        · intro x wx hR hx
          simp [AllWords] at hx
          have h12 : x 12 = .bool false := by simp [hx]
          have HB2 := Lib.hid (below_trans HB.out HB.out.size hR)
          rw [h12]
          clear hx
          go_upto_region 6 with fail
          have HI := Lib.hid (insR_at HK.out HE.out)
          have HLI := Lib.hid (insR_len rs r)
          have HCX := Lib.hid (HC1.out.below HB2.out)
          have HRX := Lib.hid (HR1.out.below HB2.out)
          have HBX := Lib.hid (below_trans HB1.out HB1.out.size HB2.out)
          obtain ⟨A7, hA7⟩ : ∃ A7 : Option Addr, (if c = k then some ⟨b, off, none⟩ else some ⟨b, off + k * 4, none⟩) = A7 := ⟨_, rfl⟩
          have HR7 : Hid (∀ wy, Below wx.heap.size wx wy → RowROk wy (A7, n - k, c - k, rs.drop k)) := Lib.hid (fun wy hb => by
            rw [← hA7]
            by_cases hck : c = k
            · rw [if_pos hck, List.drop_eq_nil_of_le (by have := HL.out; omega), show n - k = 0 by omega]
              exact RowROk.nothing _ _ _
            · rw [if_neg hck]
              exact (HRX.out.below hb).drop k (by omega) _)
          have hkc : k ≤ c := by omega
          have hkci : (k : Int) ≤ c := by omega
          have hkni : (k : Int) ≤ n := by omega
          have hnci : (n : Int) ≤ c := by omega

          refine wp_region_goesG data_follows (fun x => by simp [putsF, Act.put]; rfl) wx.heap.size wx
            [isV (.slice (some ⟨b, off, none⟩) n c), isV (.int .i64 (k : Nat)), isV (.slice (some ⟨b, off, none⟩) k c), isV (.agg #[.string r.1, .int .u16 r.2.1, .int .u32 r.2.2.1, .string r.2.2.2]), litW 1 (recCells r), isV (.slice (some ⟨b, off, none⟩) n c), isV (.int .i64 (k : Nat)), isV (.slice A7 (n - k) (c - k)), joinW (insR rs r), ownW 4 wx.heap.size wx (n + 1) (flatR (insR rs r)), ownW 4 wx.heap.size wx (n + 1) (flatR (insR rs r)), isV .nilIface]
            (by kernel_rfl) (by kernel_rfl) (by kernel_rfl) rfl ?_ (Below.refl _ _) ?_ ?_
          · repeat (first | exact trivial | refine ⟨by first | exact isV_stays _ | exact litW_stays _ _ | exact joinW_stays _ | exact ownW_stays _ _ _ _ _, ?_⟩)
          · refine ⟨?_, ?_, ?_, ?_, ?_, ?_, ?_, ?_, ?_, ?_, ?_, ?_, trivial⟩
            all_goals
              intro y wy hR hd
              refine ⟨fun _ => ?_, fun hX => by simp at hX⟩
              simp at hd ⊢
            · go_simp; exact next_same _ rfl rfl hR
            · go_simp; exact next_same _ rfl rfl hR
            · obtain ⟨hd0, hd1⟩ := hd; go_simp; exact next_same _ rfl rfl hR
            · have hc := HCX.out.below hR
              have c0 := hc.get 0 _
              have c1 := hc.get 1 _
              have c2 := hc.get 2 _
              have c3 := hc.get 3 _
              clear hc
              go_simp; exact next_same _ rfl rfl hR
            · go_simp; exact next_alloc _ _ rfl (litW_new 1 _ _ _ _) hR hR.size
            · go_simp; exact next_same _ rfl rfl hR
            · go_simp; exact next_same _ rfl rfl hR
            · obtain ⟨hd0, hd1⟩ := hd; go_simp; exact next_same _ rfl rfl hR
            · obtain ⟨hd2, ⟨g4, hx4, hc4⟩, hd7⟩ := hd
              rw [hx4]
              go_simp
              refine next_alloc _ _ rfl ⟨_, rfl, [((some ⟨b, off, none⟩), k, c, rs.take k), (some ⟨g4, 0, none⟩, 1, 1, [r]), (A7, n - k, c - k, rs.drop k)], Sl.fresh _ _ _ 3 _ rfl rfl, ?_, ?_⟩ hR hR.size
              · intro p hp
                simp at hp
                have hb' : Below wy.heap.size wy (wy.alloc (.cells #[.slice (some ⟨b, off, none⟩) k c, .slice (some ⟨g4, 0, none⟩) 1 1, .slice A7 (n - k) (c - k)] 49)) := (Below.refl _ _).alloc (Nat.le_refl _) _
                rcases hp with rfl | rfl | rfl
                · exact (((HRX.out.below hR).take k (by omega) c).below hb')
                · exact (RowROk.one hc4).below hb'
                · exact (HR7.out _ hR).below hb'
              · show rs.take k ++ ([r] ++ (rs.drop k ++ [])) = insR rs r
                rw [HI.out]; simp
            · obtain ⟨g8, hx8, rows, hS, hok, hall⟩ := hd
              rw [hx8]
              go_simp
              go_at_call 71
              refine (concat_any _ 3 3 rows wy hS (by decide) hok (by rw [hall, HLI.out, HL.out]; omega)).mono ?_
              rintro e w2 ⟨v, rfl, ho⟩
              rw [hall, HLI.out, HL.out] at ho
              exact next_call _ rfl (ho.out hR.size hR) hR hR.size ho.bel
            · have hd9 : ownW 4 wx.heap.size wx (n + 1) (flatR (insR rs r)) (y 9) wy := by first | exact hd | exact hd.1
              go_simp; exact next_same _ rfl hd9 hR
            · go_simp; exact next_same _ rfl rfl hR
          · intro y wy hR hy
            obtain ⟨-, -, -, -, -, -, -, -, -, -, ho, h11, -⟩ := hy
            have h11 : y 11 = .nilIface := h11
            unfold ownW at ho
            obtain ⟨AF, cF, hF, -, -, -⟩ := ho.slice
            have HF := Lib.hid (ho.out HBX.out.size HBX.out)
            rw [hF] at HF
            rw [hF, h11]
            clear ho hF h11 hR
            go_wp2_with fail
            refine bodyPost_ret (v := .tuple #[.slice AF (n + 1) cF, .nilIface]) (by simp [results, Tryd.results54, go_sem]) rfl ⟨_, rfl, HF.out⟩
    · obtain rfl : k = n := by omega
      have hlt' : ¬ (k : Int) < k := by omega
      have HE : Hid (∀ q, rs[k]? = some q → lowB r q = false) := Lib.hid (by
        intro p hp
        have := (List.getElem?_eq_some_iff.1 hp).1
        have := HL.out
        omega)
      go_upto_region 4 with fail
      refine wp_region_goesG data_follows (fun x => by simp [putsF, Act.put]; rfl) wr.heap.size wr
        [isV (.int .i64 (k : Nat)), isV (.slice A k c), isV (.int .i64 (k : Nat)), isV (.bool false), isV (.bool false), isV undef, isV undef, isV undef, isV undef, isV undef, isV undef, isV undef, isV (.bool false)]
        (by kernel_rfl) (by kernel_rfl) (by kernel_rfl) rfl ?_ (Below.refl _ _) ?_ ?_
      · repeat (first | exact trivial | refine ⟨isV_stays _, ?_⟩)
      · refine ⟨?_, ?_, ?_, ?_, ?_, ?_, ?_, ?_, ?_, ?_, ?_, ?_, ?_, trivial⟩
        all_goals
          intro x wx hR hd
          simp at hd ⊢
        all_goals try simp [hd]
        · go_simp; exact next_same _ rfl rfl hR
        · go_simp; exact next_same _ rfl rfl hR
        · go_simp; exact next_same _ rfl rfl hR
        · go_simp; exact next_same _ rfl rfl hR
        · go_simp; exact next_same _ rfl rfl hR
        · go_simp; exact next_same _ rfl rfl hR
      · intro x wx hR hx
        simp [AllWords] at hx
        have h12 : x 12 = .bool false := by simp [hx]
        have HB2 := Lib.hid (below_trans HB.out HB.out.size hR)
        rw [h12]
        clear hx
        cases A with
        | none =>
          obtain ⟨hk0, hc0⟩ := hA rfl
          have HK0 := Lib.hid (And.intro hk0 hc0)
          clear hk0 hc0 hA
          go_upto_region 6 with fail
          have HI := Lib.hid (insR_at HK.out HE.out)
          have HLI := Lib.hid (insR_len rs r)
          have HCX := Lib.hid (HC1.out.below HB2.out)
          have HRX := Lib.hid (HR1.out.below HB2.out)
          have HBX := Lib.hid (below_trans HB1.out HB1.out.size HB2.out)
          have HR7 : Hid (∀ wy, Below wx.heap.size wx wy → RowROk wy (none, 0, c - k, rs.drop k)) := Lib.hid (fun wy hb => by
            have hd : rs.drop k = [] := List.drop_eq_nil_of_le (by have := HL.out; omega)
            rw [hd]; exact RowROk.nothing _ _ _)
          have hkc : k ≤ c := by omega
          have hkci : (k : Int) ≤ c := by omega

          refine wp_region_goesG data_follows (fun x => by simp [putsF, Act.put]; rfl) wx.heap.size wx
            [isV (.slice none k c), isV (.int .i64 (k : Nat)), isV (.slice none k c), isV (.agg #[.string r.1, .int .u16 r.2.1, .int .u32 r.2.2.1, .string r.2.2.2]), litW 1 (recCells r), isV (.slice none k c), isV (.int .i64 (k : Nat)), isV (.slice none 0 (c - k)), joinW (insR rs r), ownW 4 wx.heap.size wx (k + 1) (flatR (insR rs r)), ownW 4 wx.heap.size wx (k + 1) (flatR (insR rs r)), isV .nilIface]
            (by kernel_rfl) (by kernel_rfl) (by kernel_rfl) rfl ?_ (Below.refl _ _) ?_ ?_
          · repeat (first | exact trivial | refine ⟨by first | exact isV_stays _ | exact litW_stays _ _ | exact joinW_stays _ | exact ownW_stays _ _ _ _ _, ?_⟩)
          · refine ⟨?_, ?_, ?_, ?_, ?_, ?_, ?_, ?_, ?_, ?_, ?_, ?_, trivial⟩
            all_goals
              intro y wy hR hd
              refine ⟨fun _ => ?_, fun hX => by simp at hX⟩
              simp at hd ⊢
            · go_simp; exact next_same _ rfl rfl hR
            · go_simp; exact next_same _ rfl rfl hR
            · obtain ⟨hd0, hd1⟩ := hd; go_simp; exact next_same _ rfl rfl hR
            · have hc := HCX.out.below hR
              have c0 := hc.get 0 _
              have c1 := hc.get 1 _
              have c2 := hc.get 2 _
              have c3 := hc.get 3 _
              clear hc
              go_simp; exact next_same _ rfl rfl hR
            · go_simp; exact next_alloc _ _ rfl (litW_new 1 _ _ _ _) hR hR.size
            · go_simp; exact next_same _ rfl rfl hR
            · go_simp; exact next_same _ rfl rfl hR
            · obtain ⟨hd0, hd1⟩ := hd; go_simp; exact next_same _ rfl rfl hR
            · obtain ⟨hd2, ⟨g4, hx4, hc4⟩, hd7⟩ := hd
              rw [hx4]
              go_simp
              refine next_alloc _ _ rfl ⟨_, rfl, [(none, k, c, rs.take k), (some ⟨g4, 0, none⟩, 1, 1, [r]), (none, 0, c - k, rs.drop k)], Sl.fresh _ _ _ 3 _ rfl rfl, ?_, ?_⟩ hR hR.size
              · intro p hp
                simp at hp
                have hb' : Below wy.heap.size wy (wy.alloc (.cells #[.slice none k c, .slice (some ⟨g4, 0, none⟩) 1 1, .slice none 0 (c - k)] 49)) := (Below.refl _ _).alloc (Nat.le_refl _) _
                rcases hp with rfl | rfl | rfl
                · exact (((HRX.out.below hR).take k (by omega) c).below hb')
                · exact (RowROk.one hc4).below hb'
                · exact (HR7.out _ hR).below hb'
              · show rs.take k ++ ([r] ++ (rs.drop k ++ [])) = insR rs r
                rw [HI.out]; simp
            · obtain ⟨g8, hx8, rows, hS, hok, hall⟩ := hd
              rw [hx8]
              go_simp
              go_at_call 71
              refine (concat_any _ 3 3 rows wy hS (by decide) hok (by rw [hall, HLI.out, HL.out]; omega)).mono ?_
              rintro e w2 ⟨v, rfl, ho⟩
              rw [hall, HLI.out, HL.out] at ho
              exact next_call _ rfl (ho.out hR.size hR) hR hR.size ho.bel
            · have hd9 : ownW 4 wx.heap.size wx (k + 1) (flatR (insR rs r)) (y 9) wy := by first | exact hd | exact hd.1
              go_simp; exact next_same _ rfl hd9 hR
            · go_simp; exact next_same _ rfl rfl hR
          · intro y wy hR hy
            obtain ⟨-, -, -, -, -, -, -, -, -, -, ho, h11, -⟩ := hy
            have h11 : y 11 = .nilIface := h11
            unfold ownW at ho
            obtain ⟨AF, cF, hF, -, -, -⟩ := ho.slice
            have HF := Lib.hid (ho.out HBX.out.size HBX.out)
            rw [hF] at HF
            rw [hF, h11]
            clear ho hF h11 hR
            go_wp2_with fail
            refine bodyPost_ret (v := .tuple #[.slice AF (k + 1) cF, .nilIface]) (by simp [results, Tryd.results54, go_sem]) rfl ⟨_, rfl, HF.out⟩
        | some a =>
          rcases Nat.eq_zero_or_pos k with hk0 | hk0
          · have HK0 := Lib.hid hk0
            go_upto_region 6 with fail
            have HI := Lib.hid (insR_at HK.out HE.out)
            have HLI := Lib.hid (insR_len rs r)
            have HCX := Lib.hid (HC1.out.below HB2.out)
            have HRX := Lib.hid (HR1.out.below HB2.out)
            have HBX := Lib.hid (below_trans HB1.out HB1.out.size HB2.out)
            obtain ⟨A7, hA7⟩ : ∃ A7 : Option Addr, (if c = k then some a else some (a.add (k * 4))) = A7 := ⟨_, rfl⟩
            have HR7 : Hid (∀ wy, Below wx.heap.size wx wy → RowROk wy (A7, 0, c - k, rs.drop k)) := Lib.hid (fun wy hb => by
              have hd : rs.drop k = [] := List.drop_eq_nil_of_le (by have := HL.out; omega)
              rw [hd]; exact RowROk.nothing _ _ _)
            have hkc : k ≤ c := by omega
            have hkci : (k : Int) ≤ c := by omega
            clear hk0

            refine wp_region_goesG data_follows (fun x => by simp [putsF, Act.put]; rfl) wx.heap.size wx
              [isV (.slice (some a) k c), isV (.int .i64 (k : Nat)), isV (.slice (some a) k c), isV (.agg #[.string r.1, .int .u16 r.2.1, .int .u32 r.2.2.1, .string r.2.2.2]), litW 1 (recCells r), isV (.slice (some a) k c), isV (.int .i64 (k : Nat)), isV (.slice A7 0 (c - k)), joinW (insR rs r), ownW 4 wx.heap.size wx (k + 1) (flatR (insR rs r)), ownW 4 wx.heap.size wx (k + 1) (flatR (insR rs r)), isV .nilIface]
              (by kernel_rfl) (by kernel_rfl) (by kernel_rfl) rfl ?_ (Below.refl _ _) ?_ ?_
            · repeat (first | exact trivial | refine ⟨by first | exact isV_stays _ | exact litW_stays _ _ | exact joinW_stays _ | exact ownW_stays _ _ _ _ _, ?_⟩)
            · refine ⟨?_, ?_, ?_, ?_, ?_, ?_, ?_, ?_, ?_, ?_, ?_, ?_, trivial⟩
              all_goals
                intro y wy hR hd
                refine ⟨fun _ => ?_, fun hX => by simp at hX⟩
                simp at hd ⊢
              · go_simp; exact next_same _ rfl rfl hR
              · go_simp; exact next_same _ rfl rfl hR
              · obtain ⟨hd0, hd1⟩ := hd; go_simp; exact next_same _ rfl rfl hR
              · have hc := HCX.out.below hR
                have c0 := hc.get 0 _
                have c1 := hc.get 1 _
                have c2 := hc.get 2 _
                have c3 := hc.get 3 _
                clear hc
                go_simp; exact next_same _ rfl rfl hR
              · go_simp; exact next_alloc _ _ rfl (litW_new 1 _ _ _ _) hR hR.size
              · go_simp; exact next_same _ rfl rfl hR
              · go_simp; exact next_same _ rfl rfl hR
              · obtain ⟨hd0, hd1⟩ := hd; go_simp; exact next_same _ rfl rfl hR
              · obtain ⟨hd2, ⟨g4, hx4, hc4⟩, hd7⟩ := hd
                rw [hx4]
                go_simp
                refine next_alloc _ _ rfl ⟨_, rfl, [((some a), k, c, rs.take k), (some ⟨g4, 0, none⟩, 1, 1, [r]), (A7, 0, c - k, rs.drop k)], Sl.fresh _ _ _ 3 _ rfl rfl, ?_, ?_⟩ hR hR.size
                · intro p hp
                  simp at hp
                  have hb' : Below wy.heap.size wy (wy.alloc (.cells #[.slice (some a) k c, .slice (some ⟨g4, 0, none⟩) 1 1, .slice A7 0 (c - k)] 49)) := (Below.refl _ _).alloc (Nat.le_refl _) _
                  rcases hp with rfl | rfl | rfl
                  · exact (((HRX.out.below hR).take k (by omega) c).below hb')
                  · exact (RowROk.one hc4).below hb'
                  · exact (HR7.out _ hR).below hb'
                · show rs.take k ++ ([r] ++ (rs.drop k ++ [])) = insR rs r
                  rw [HI.out]; simp
              · obtain ⟨g8, hx8, rows, hS, hok, hall⟩ := hd
                rw [hx8]
                go_simp
                go_at_call 71
                refine (concat_any _ 3 3 rows wy hS (by decide) hok (by rw [hall, HLI.out, HL.out]; omega)).mono ?_
                rintro e w2 ⟨v, rfl, ho⟩
                rw [hall, HLI.out, HL.out] at ho
                exact next_call _ rfl (ho.out hR.size hR) hR hR.size ho.bel
              · have hd9 : ownW 4 wx.heap.size wx (k + 1) (flatR (insR rs r)) (y 9) wy := by first | exact hd | exact hd.1
                go_simp; exact next_same _ rfl hd9 hR
              · go_simp; exact next_same _ rfl rfl hR
            · intro y wy hR hy
              obtain ⟨-, -, -, -, -, -, -, -, -, -, ho, h11, -⟩ := hy
              have h11 : y 11 = .nilIface := h11
              unfold ownW at ho
              obtain ⟨AF, cF, hF, -, -, -⟩ := ho.slice
              have HF := Lib.hid (ho.out HBX.out.size HBX.out)
              rw [hF] at HF
              rw [hF, h11]
              clear ho hF h11 hR
              go_wp2_with fail
              refine bodyPost_ret (v := .tuple #[.slice AF (k + 1) cF, .nilIface]) (by simp [results, Tryd.results54, go_sem]) rfl ⟨_, rfl, HF.out⟩
          · obtain ⟨b, off, he, -, -⟩ := HR1.out.sl.2 hk0
            dsimp only at he
            injection he with he
            subst he
            go_upto_region 6 with fail
            have HI := Lib.hid (insR_at HK.out HE.out)
            have HLI := Lib.hid (insR_len rs r)
            have HCX := Lib.hid (HC1.out.below HB2.out)
            have HRX := Lib.hid (HR1.out.below HB2.out)
            have HBX := Lib.hid (below_trans HB1.out HB1.out.size HB2.out)
            obtain ⟨A7, hA7⟩ : ∃ A7 : Option Addr, (if c = k then some ⟨b, off, none⟩ else some ⟨b, off + k * 4, none⟩) = A7 := ⟨_, rfl⟩
            have HR7 : Hid (∀ wy, Below wx.heap.size wx wy → RowROk wy (A7, 0, c - k, rs.drop k)) := Lib.hid (fun wy hb => by
              rw [← hA7]
              by_cases hck : c = k
              · rw [if_pos hck, List.drop_eq_nil_of_le (by have := HL.out; omega)]
                exact RowROk.nothing _ _ _
              · rw [if_neg hck]
                have := (HRX.out.below hb).drop k (by omega) (c - k)
                rwa [Nat.sub_self] at this)
            have hkc : k ≤ c := by omega
            have hkci : (k : Int) ≤ c := by omega
            have hkni : (k : Int) ≤ k := by omega
            have hnci : (k : Int) ≤ c := by omega

            refine wp_region_goesG data_follows (fun x => by simp [putsF, Act.put]; rfl) wx.heap.size wx
              [isV (.slice (some ⟨b, off, none⟩) k c), isV (.int .i64 (k : Nat)), isV (.slice (some ⟨b, off, none⟩) k c), isV (.agg #[.string r.1, .int .u16 r.2.1, .int .u32 r.2.2.1, .string r.2.2.2]), litW 1 (recCells r), isV (.slice (some ⟨b, off, none⟩) k c), isV (.int .i64 (k : Nat)), isV (.slice A7 0 (c - k)), joinW (insR rs r), ownW 4 wx.heap.size wx (k + 1) (flatR (insR rs r)), ownW 4 wx.heap.size wx (k + 1) (flatR (insR rs r)), isV .nilIface]
              (by kernel_rfl) (by kernel_rfl) (by kernel_rfl) rfl ?_ (Below.refl _ _) ?_ ?_
            · repeat (first | exact trivial | refine ⟨by first | exact isV_stays _ | exact litW_stays _ _ | exact joinW_stays _ | exact ownW_stays _ _ _ _ _, ?_⟩)
            · refine ⟨?_, ?_, ?_, ?_, ?_, ?_, ?_, ?_, ?_, ?_, ?_, ?_, trivial⟩
              all_goals
                intro y wy hR hd
                refine ⟨fun _ => ?_, fun hX => by simp at hX⟩
                simp at hd ⊢
              · go_simp; exact next_same _ rfl rfl hR
              · go_simp; exact next_same _ rfl rfl hR
              · obtain ⟨hd0, hd1⟩ := hd; go_simp; exact next_same _ rfl rfl hR
              · have hc := HCX.out.below hR
                have c0 := hc.get 0 _
                have c1 := hc.get 1 _
                have c2 := hc.get 2 _
                have c3 := hc.get 3 _
                clear hc
                go_simp; exact next_same _ rfl rfl hR
              · go_simp; exact next_alloc _ _ rfl (litW_new 1 _ _ _ _) hR hR.size
              · go_simp; exact next_same _ rfl rfl hR
              · go_simp; exact next_same _ rfl rfl hR
              · obtain ⟨hd0, hd1⟩ := hd; go_simp; exact next_same _ rfl rfl hR
              · obtain ⟨hd2, ⟨g4, hx4, hc4⟩, hd7⟩ := hd
                rw [hx4]
                go_simp
                refine next_alloc _ _ rfl ⟨_, rfl, [((some ⟨b, off, none⟩), k, c, rs.take k), (some ⟨g4, 0, none⟩, 1, 1, [r]), (A7, 0, c - k, rs.drop k)], Sl.fresh _ _ _ 3 _ rfl rfl, ?_, ?_⟩ hR hR.size
                · intro p hp
                  simp at hp
                  have hb' : Below wy.heap.size wy (wy.alloc (.cells #[.slice (some ⟨b, off, none⟩) k c, .slice (some ⟨g4, 0, none⟩) 1 1, .slice A7 0 (c - k)] 49)) := (Below.refl _ _).alloc (Nat.le_refl _) _
                  rcases hp with rfl | rfl | rfl
                  · exact (((HRX.out.below hR).take k (by omega) c).below hb')
                  · exact (RowROk.one hc4).below hb'
                  · exact (HR7.out _ hR).below hb'
                · show rs.take k ++ ([r] ++ (rs.drop k ++ [])) = insR rs r
                  rw [HI.out]; simp
              · obtain ⟨g8, hx8, rows, hS, hok, hall⟩ := hd
                rw [hx8]
                go_simp
                go_at_call 71
                refine (concat_any _ 3 3 rows wy hS (by decide) hok (by rw [hall, HLI.out, HL.out]; omega)).mono ?_
                rintro e w2 ⟨v, rfl, ho⟩
                rw [hall, HLI.out, HL.out] at ho
                exact next_call _ rfl (ho.out hR.size hR) hR hR.size ho.bel
              · have hd9 : ownW 4 wx.heap.size wx (k + 1) (flatR (insR rs r)) (y 9) wy := by first | exact hd | exact hd.1
                go_simp; exact next_same _ rfl hd9 hR
              · go_simp; exact next_same _ rfl rfl hR
            · intro y wy hR hy
              obtain ⟨-, -, -, -, -, -, -, -, -, -, ho, h11, -⟩ := hy
              have h11 : y 11 = .nilIface := h11
              unfold ownW at ho
              obtain ⟨AF, cF, hF, -, -, -⟩ := ho.slice
              have HF := Lib.hid (ho.out HBX.out.size HBX.out)
              rw [hF] at HF
              rw [hF, h11]
              clear ho hF h11 hR
              go_wp2_with fail
              refine bodyPost_ret (v := .tuple #[.slice AF (k + 1) cF, .nilIface]) (by simp [results, Tryd.results54, go_sem]) rfl ⟨_, rfl, HF.out⟩
end Go.Proofs.YtpbbnpglcadimaaDoor
namespace Go.Proofs.YtpbbnpglcadimaaDoor
open Go.RowKit
set_option linter.unusedVariables false
set_option linter.unusedSimpArgs false
set_option maxRecDepth 20000
attribute [local simp] putsF isV wordOf Deps Region.binds Region.wanted Act.put wantedX isB
def recA8 : RecT := (⟨#[1, 97]⟩, 1, 0, ⟨#[]⟩)
def recB8 : RecT := (⟨#[1, 97]⟩, 16, 0, ⟨#[]⟩)
theorem cmp_ab : cmpR recA8 recB8 = -1 := by
  unfold cmpR
  rw [show cmpS recA8.1 recB8.1 = 0 from cmpS_is.refl _]
  rfl
theorem cmp_ba : cmpR recB8 recA8 = 1 := by rw [cmpR_is.swap, cmp_ab]; rfl
theorem ins_ab : insR [recB8] recA8 = [recA8, recB8] := by
  unfold insR
  have : lowB recA8 recB8 = false := by unfold lowB; rw [cmp_ba]; rfl
  simp [this]
theorem ab_ne : recA8 ∉ [recB8] := by
  intro h
  have h : recA8 = recB8 := by simpa using h
  have := cmp_ab
  rw [h, cmpR_is.refl] at this
  cases this
end Go.Proofs.YtpbbnpglcadimaaDoor
namespace Go.Proofs.YtpbbnpglcadimaaDoor
open Go.RowKit
set_option linter.unusedVariables false
set_option linter.unusedSimpArgs false
set_option maxRecDepth 20000
/-- How many bytes records take. -/
def sizeR (rs : List RecT) : Nat := (rs.map fun r => 10 + r.1.size + r.2.2.2.size).sum
theorem sizeR_next {rs : List RecT} {k : Nat} {r : RecT} (h : rs[k]? = some r) : sizeR (rs.take (k + 1)) = sizeR (rs.take k) + (10 + r.1.size + r.2.2.2.size) := by
  unfold sizeR; rw [List.take_add_one, h]; simp
theorem sizeR_le (rs : List RecT) (k : Nat) : sizeR (rs.take k) ≤ sizeR rs := by
  have h : sizeR rs = sizeR (rs.take k) + sizeR (rs.drop k) := by
    unfold sizeR; rw [← List.sum_append, ← List.map_append, List.take_append_drop]
  omega
set_option maxHeartbeats 1600000 in
theorem size_any (A : Option Addr) (n c : Nat) (rs : List RecT) (w : World) (h : Recs w A rs) (hl : rs.length = n) (hn : n ≤ maxLen) (hs : sizeR rs ≤ 1000000000000) :
    Calls Tryd.prog 74 #[.slice A n c] w fun e w' => e = .returned (.int .i64 (sizeR rs : Nat)) ∧ Below w.heap.size w w' := by
  unfold maxLen at hn
  have H := Lib.hid h
  have HL := Lib.hid hl
  have HS := Lib.hid hs
  clear h hl hs
  go_enter Tryd.func74, Tryd.ntmps74
  go_wp2_with fail
  go_loopw [3, 8] (fun s i wr => ∃ k m : Nat, k ≤ n ∧ i = .int .i64 k ∧ s = .int .i64 m ∧ Hid (m = sizeR (rs.take k)) ∧ Hid (Below w.heap.size w wr)) (fun _ i _ => n - (intOf i).toNat)
  case atStart => exact ⟨0, 0, Nat.zero_le _, rfl, rfl, Lib.hid (by simp [sizeR]), Lib.hid (Below.refl _ _)⟩
  case round =>
    obtain ⟨k, m, hk, rfl, rfl, HM, HB⟩ := hrel
    by_cases hlt : k < n
    · have hlt' : (k : Int) < n := by omega
      obtain ⟨r, hr⟩ : ∃ q, rs[k]? = some q := ⟨_, List.getElem?_eq_getElem (by rw [HL.out]; exact hlt)⟩
      obtain ⟨b, off, rfl, hb, z0, z1, z2, z3⟩ := (H.out.below HB.out) k _ hr
      have hnx := sizeR_next hr
      have hle := sizeR_le rs (k + 1)
      have hm := HM.out
      have hs := HS.out
      obtain ⟨M, hM⟩ : ∃ M : Nat, M = m + (10 + r.1.size + r.2.2.2.size) := ⟨_, rfl⟩
      have HM2 : Hid (M = sizeR (rs.take (k + 1))) := Lib.hid (by rw [hnx, hM, hm])
      have hb1 : M ≤ 1000000000000 := by omega
      have hb2 : (r.1.size : Int) ≤ 1000000000000 := by omega
      have hb3 : (r.2.2.2.size : Int) ≤ 1000000000000 := by omega
      have hsum : (m : Int) + (10 + (r.1.size : Int) + (r.2.2.2.size : Int)) = (M : Int) := by omega
      have hmi : (m : Int) ≤ 1000000000000 := by omega
      clear hr hnx hle hm hs hM
      go_wp2_with fail
      go_round
      case rel => exact ⟨k + 1, M, by omega, by go_num, by first | rfl | (rw [hsum]), HM2, Lib.hid (HB.out.alloc HB.out.size _)⟩
      case measure => simp [intOf]; omega
    · have hlt' : ¬ (k : Int) < n := by omega
      go_wp2_with fail
      go_ret
      exact ⟨by rw [HM.out, List.take_of_length_le (by rw [HL.out]; omega)]; rfl, HB.out⟩
def fitsR (n s : Nat) : Bool := decide (n ≤ 256) && decide (s ≤ 16384)
theorem fits_any (A : Option Addr) (n c : Nat) (rs : List RecT) (w : World) (h : Recs w A rs) (hl : rs.length = n) (hn : n ≤ maxLen) (hs : sizeR rs ≤ 1000000000000) :
    Calls Tryd.prog 57 #[.slice A n c] w fun e w' => e = .returned (.bool (fitsR n (sizeR rs))) ∧ Below w.heap.size w w' := by
  have SZ := Lib.hid (fun w h => size_any A n c rs w h hl hn hs)
  have H := Lib.hid h
  obtain ⟨S, hS⟩ : ∃ S, sizeR rs = S := ⟨_, rfl⟩
  rw [hS] at SZ hs ⊢
  unfold maxLen at hn
  clear h hl hS
  by_cases h1 : n ≤ 256
  · have h1i : (n : Int) ≤ 256 := by omega
    have h1d : decide ((n : Int) ≤ 256) = true := by simpa using h1i
    by_cases h2 : S ≤ 16384
    · have h2i : (S : Int) ≤ 16384 := by omega
      have h2d : decide ((S : Int) ≤ 16384) = true := by simpa using h2i
      have HF : Hid (fitsR n S = true) := Lib.hid (by simp [fitsR, h1, h2])
      rw [HF.out]
      go_enter Tryd.func57, Tryd.ntmps57
      go_wp2_with fail
      refine (SZ.out _ H.out).mono ?_
      rintro e w1 ⟨rfl, hb⟩
      have HB := Lib.hid hb
      clear hb
      go_wp2_with fail
      go_ret
      exact ⟨rfl, HB.out⟩
    · have h2i : ¬ (S : Int) ≤ 16384 := by omega
      have h2d : decide ((S : Int) ≤ 16384) = false := by simpa using h2i
      have HF : Hid (fitsR n S = false) := Lib.hid (by simp [fitsR, h1]; omega)
      rw [HF.out]
      go_enter Tryd.func57, Tryd.ntmps57
      go_wp2_with fail
      refine (SZ.out _ H.out).mono ?_
      rintro e w1 ⟨rfl, hb⟩
      have HB := Lib.hid hb
      clear hb
      go_wp2_with fail
      go_ret
      exact ⟨rfl, HB.out⟩
  · have h1i : ¬ (n : Int) ≤ 256 := by omega
    have h1d : decide ((n : Int) ≤ 256) = false := by simpa using h1i
    have HF : Hid (fitsR n S = false) := Lib.hid (by simp [fitsR]; omega)
    rw [HF.out]
    go_enter Tryd.func57, Tryd.ntmps57
    go_wp2_with fail
    go_ret
    exact ⟨rfl, Below.refl _ _⟩
def nameB (s : ByteArray) (r : RecT) : Bool := r.1.toList == s.toList
def atR (rs : List RecT) (s : ByteArray) : List RecT := rs.filter (nameB s)
theorem atR_yes {rs : List RecT} {s : ByteArray} {k : Nat} {r : RecT} (hr : rs[k]? = some r) (hb : nameB s r = true) : atR (rs.take (k + 1)) s = atR (rs.take k) s ++ [r] := by
  unfold atR; rw [List.take_add_one, hr]; simp [List.filter_append, hb]
theorem atR_no {rs : List RecT} {s : ByteArray} {k : Nat} {r : RecT} (hr : rs[k]? = some r) (hb : nameB s r = false) : atR (rs.take (k + 1)) s = atR (rs.take k) s := by
  unfold atR; rw [List.take_add_one, hr]; simp [List.filter_append, hb]
theorem atR_le (rs : List RecT) (s : ByteArray) (k : Nat) : (atR (rs.take k) s).length ≤ rs.length := by
  unfold atR
  have h1 := List.length_filter_le (nameB s) (rs.take k)
  have h2 := List.length_take_le k rs
  simp at h1
  omega
theorem src_one' {w : World} {ts : TypeId} (hts : Tryd.prog.underlying ts = some (.slice 41)) (r : RecT) :
    Src Tryd.prog 4 ts (.slice (some ⟨w.heap.size, 0, none⟩) 1 1) 1 (recCells r) (w.alloc (.cells #[.string r.1, .int .u16 r.2.1, .int .u32 r.2.2.1, .string r.2.2.2] 41)) := by
  refine Src.ofSlice _ hts _ 1 1 _ rfl ?_ ?_
  · exact news_at w #[.string r.1, .int .u16 r.2.1, .int .u32 r.2.2.1, .string r.2.2.2] _
  · intro u hu
    unfold recCells at hu
    simp at hu
    rcases hu with rfl | rfl | rfl | rfl <;> rfl
end Go.Proofs.YtpbbnpglcadimaaDoor
namespace Go.Proofs.YtpbbnpglcadimaaDoor
open Go.RowKit
set_option linter.unusedVariables false
set_option linter.unusedSimpArgs false
set_option maxRecDepth 20000
attribute [local simp] putsF isV wordOf Deps Region.binds Region.wanted Act.put wantedX isB
/-- What tells two strings apart, or not. -/
theorem cmpS_facts (s t : ByteArray) : (cmpS s t = 0 ∧ (s.toList == t.toList) = true) ∨ (cmpS s t = -1 ∧ (s.toList == t.toList) = false ∧ Op.bytesLess s.toList t.toList = true) ∨ (cmpS s t = 1 ∧ (s.toList == t.toList) = false ∧ Op.bytesLess s.toList t.toList = false) := by
  have hl := less_cmpB s.toList t.toList
  have hz := cmpB_zero s.toList t.toList
  have hr := cmpB_range s.toList t.toList
  unfold cmpS
  rcases hr with h | h | h
  · right; left
    refine ⟨h, ?_, by rw [hl, h]; rfl⟩
    rw [beq_eq_false_iff_ne]; intro e; rw [hz.2 e] at h; cases h
  · left; exact ⟨h, by rw [beq_iff_eq]; exact hz.1 h⟩
  · right; right
    refine ⟨h, ?_, by rw [hl, h]; rfl⟩
    rw [beq_eq_false_iff_ne]; intro e; rw [hz.2 e] at h; cases h
theorem cmpI_facts (a b : Int) : (cmpI a b = 0 ∧ (a != b) = false) ∨ (cmpI a b = -1 ∧ (a != b) = true ∧ a < b) ∨ (cmpI a b = 1 ∧ (a != b) = true ∧ ¬ a < b) := by
  unfold cmpI
  by_cases h1 : a < b
  · right; left; exact ⟨by simp [h1], by simp; omega, h1⟩
  · by_cases h2 : b < a
    · right; right; exact ⟨by simp [h1, h2], by simp; omega, h1⟩
    · left; exact ⟨by simp [h1, h2], by simp; omega⟩
set_option maxHeartbeats 3200000 in
theorem compare8_any (r r' : RecT) (w : World) : Calls Tryd.prog 55 #[recV r, recV r'] w fun e w' => e = .returned (.int .i64 (cmpR r r')) ∧ Below w.heap.size w w' := by
  obtain ⟨q, hq⟩ : ∃ q, eqB r r' = q := ⟨_, rfl⟩
  have hnq := fun w => rec_eql r r' w
  rw [hq] at hnq
  have hqz : q = true ↔ cmpR r r' = 0 := by rw [← hq, eqB_iff, cmpR_is.zero]
  have hC : cmpR r r' = thenC (cmpS r.1 r'.1) (thenC (cmpI r.2.1 r'.2.1) (thenC (cmpS r.2.2.2 r'.2.2.2) (cmpI r.2.2.1 r'.2.2.1))) := rfl
  have f0 := cmpS_facts r.1 r'.1
  have f1 := cmpI_facts r.2.1 r'.2.1
  have f2 := cmpS_facts r.2.2.2 r'.2.2.2
  have f3 := cmpI_facts r.2.2.1 r'.2.2.1
  obtain ⟨C, hCC⟩ : ∃ C, cmpR r r' = C := ⟨_, rfl⟩
  rw [hCC] at hqz hC ⊢
  unfold recV at hnq ⊢
  clear hCC hq
  rcases f0 with ⟨e0, n0⟩ | ⟨e0, n0, l0⟩ | ⟨e0, n0, l0⟩
  · rcases f1 with ⟨e1, n1⟩ | ⟨e1, n1, l1⟩ | ⟨e1, n1, l1⟩
    · rcases f2 with ⟨e2, n2⟩ | ⟨e2, n2, l2⟩ | ⟨e2, n2, l2⟩
      · rcases f3 with ⟨e3, n3⟩ | ⟨e3, n3, l3⟩ | ⟨e3, n3, l3⟩
        · obtain rfl : C = 0 := by rw [hC]; simp [thenC, e0, e1, e2, e3]
          obtain rfl : q = true := by exact hqz.2 rfl
          clear hC hqz e0 e1 e2 e3
          go_enter Tryd.func55, Tryd.ntmps55
          go_wp2_with fail
          go_ret
          exact ⟨rfl, ((Below.refl _ _).alloc (Nat.le_refl _) _).alloc (by simp) _⟩
        · obtain rfl : C = -1 := by rw [hC]; simp [thenC, e0, e1, e2, e3]
          obtain rfl : q = false := by cases q with | false => rfl | true => exact absurd (hqz.1 rfl) (by decide)
          clear hC hqz e0 e1 e2 e3
          go_enter Tryd.func55, Tryd.ntmps55
          go_wp2_with fail
          go_ret
          exact ⟨rfl, ((Below.refl _ _).alloc (Nat.le_refl _) _).alloc (by simp) _⟩
        · obtain rfl : C = 1 := by rw [hC]; simp [thenC, e0, e1, e2, e3]
          obtain rfl : q = false := by cases q with | false => rfl | true => exact absurd (hqz.1 rfl) (by decide)
          clear hC hqz e0 e1 e2 e3
          go_enter Tryd.func55, Tryd.ntmps55
          go_wp2_with fail
          go_ret
          exact ⟨rfl, ((Below.refl _ _).alloc (Nat.le_refl _) _).alloc (by simp) _⟩
      · obtain rfl : C = -1 := by rw [hC]; simp [thenC, e0, e1, e2]
        obtain rfl : q = false := by cases q with | false => rfl | true => exact absurd (hqz.1 rfl) (by decide)
        clear hC hqz e0 e1 e2
        go_enter Tryd.func55, Tryd.ntmps55
        go_wp2_with fail
        go_ret
        exact ⟨rfl, ((Below.refl _ _).alloc (Nat.le_refl _) _).alloc (by simp) _⟩
      · obtain rfl : C = 1 := by rw [hC]; simp [thenC, e0, e1, e2]
        obtain rfl : q = false := by cases q with | false => rfl | true => exact absurd (hqz.1 rfl) (by decide)
        clear hC hqz e0 e1 e2
        go_enter Tryd.func55, Tryd.ntmps55
        go_wp2_with fail
        go_ret
        exact ⟨rfl, ((Below.refl _ _).alloc (Nat.le_refl _) _).alloc (by simp) _⟩
    · obtain rfl : C = -1 := by rw [hC]; simp [thenC, e0, e1]
      obtain rfl : q = false := by cases q with | false => rfl | true => exact absurd (hqz.1 rfl) (by decide)
      clear hC hqz e0 e1
      go_enter Tryd.func55, Tryd.ntmps55
      go_wp2_with fail
      go_ret
      exact ⟨rfl, ((Below.refl _ _).alloc (Nat.le_refl _) _).alloc (by simp) _⟩
    · obtain rfl : C = 1 := by rw [hC]; simp [thenC, e0, e1]
      obtain rfl : q = false := by cases q with | false => rfl | true => exact absurd (hqz.1 rfl) (by decide)
      clear hC hqz e0 e1
      go_enter Tryd.func55, Tryd.ntmps55
      go_wp2_with fail
      go_ret
      exact ⟨rfl, ((Below.refl _ _).alloc (Nat.le_refl _) _).alloc (by simp) _⟩
  · obtain rfl : C = -1 := by rw [hC]; simp [thenC, e0]
    obtain rfl : q = false := by cases q with | false => rfl | true => exact absurd (hqz.1 rfl) (by decide)
    clear hC hqz e0
    go_enter Tryd.func55, Tryd.ntmps55
    go_wp2_with fail
    go_ret
    exact ⟨rfl, ((Below.refl _ _).alloc (Nat.le_refl _) _).alloc (by simp) _⟩
  · obtain rfl : C = 1 := by rw [hC]; simp [thenC, e0]
    obtain rfl : q = false := by cases q with | false => rfl | true => exact absurd (hqz.1 rfl) (by decide)
    clear hC hqz e0
    go_enter Tryd.func55, Tryd.ntmps55
    go_wp2_with fail
    go_ret
    exact ⟨rfl, ((Below.refl _ _).alloc (Nat.le_refl _) _).alloc (by simp) _⟩
end Go.Proofs.YtpbbnpglcadimaaDoor
namespace Go.Proofs.YtpbbnpglcadimaaDoor
open Go.RowKit
set_option linter.unusedVariables false
set_option linter.unusedSimpArgs false
set_option maxRecDepth 20000
attribute [local simp] putsF isV wordOf Deps Region.binds Region.wanted Act.put wantedX isB
/-- Records with one more, unless it is there. -/
def stepS (out : List RecT) (r : RecT) : List RecT := match out.dropWhile (lowB r) with
  | q :: _ => if eqB q r then out else insR out r
  | [] => insR out r
def sortedR (rs : List RecT) : List RecT := rs.foldl stepS []
theorem sortedR_next {rs : List RecT} {k : Nat} {r : RecT} (h : rs[k]? = some r) : sortedR (rs.take (k + 1)) = stepS (sortedR (rs.take k)) r := by
  unfold sortedR; rw [List.take_add_one, h]; simp
theorem stepS_le (out : List RecT) (r : RecT) : (stepS out r).length ≤ out.length + 1 := by
  unfold stepS
  split
  · split
    · omega
    · rw [insR_len]; exact Nat.le_refl _
  · rw [insR_len]; exact Nat.le_refl _
theorem foldl_le : ∀ (rs out : List RecT), (rs.foldl stepS out).length ≤ out.length + rs.length
  | [], out => by simp
  | r :: rs, out => by
    have h1 := foldl_le rs (stepS out r)
    have h2 := stepS_le out r
    rw [List.foldl_cons, List.length_cons]; omega
theorem sortedR_le (rs : List RecT) : (sortedR rs).length ≤ rs.length := by have := foldl_le rs []; simpa [sortedR] using this
theorem step_same {out : List RecT} {r q : RecT} {k : Nat} (h : ∀ q ∈ out.take k, lowB r q = true) (he : ∀ q, out[k]? = some q → lowB r q = false) (hq : out[k]? = some q) (hb : eqB q r = true) : stepS out r = out := by
  obtain ⟨-, h2⟩ := take_while h he
  have hk := (List.getElem?_eq_some_iff.1 hq).1
  unfold stepS
  rw [h2, List.drop_eq_getElem_cons hk]
  have e : out[k] = q := by rw [List.getElem?_eq_getElem hk] at hq; injection hq
  simp only [e, hb, if_true]
theorem step_new {out : List RecT} {r : RecT} {k : Nat} (h : ∀ q ∈ out.take k, lowB r q = true) (he : ∀ q, out[k]? = some q → lowB r q = false) (hb : ∀ q, out[k]? = some q → eqB q r = false) : stepS out r = out.take k ++ r :: out.drop k := by
  obtain ⟨-, h2⟩ := take_while h he
  unfold stepS
  rw [h2]
  cases hd : out.drop k with
  | nil =>
    dsimp only
    rw [insR_at h he, hd]
  | cons q l =>
    have hk : k < out.length := by
      rcases Nat.lt_or_ge k out.length with h | h
      · exact h
      · rw [List.drop_eq_nil_of_le h] at hd; cases hd
    rw [List.drop_eq_getElem_cons hk] at hd
    injection hd with hd1 hd2
    have := hb q (by rw [List.getElem?_eq_getElem hk, hd1])
    dsimp only
    rw [this, insR_at h he, List.drop_eq_getElem_cons hk, hd1, hd2]
    simp
theorem until_mono {k i : Nat} {p : Value → World → Prop} {d : Nat → Bool} {v : Value} {w : World} (h : until_ k p d v w) : until_ k p (setD d i) v w := fun hk => h (setD_false hk)
theorem insR_split_len {out : List RecT} {r : RecT} {k : Nat} (hk : k ≤ out.length) : (out.take k ++ r :: out.drop k).length = out.length + 1 := by
  rw [List.length_append, List.length_cons, List.length_take, List.length_drop]; omega
set_option maxHeartbeats 6400000 in
theorem sorted_any (A : Option Addr) (n c : Nat) (rs : List RecT) (w : World) (h : Recs w A rs) (hl : rs.length = n) (hn : n ≤ 100000) :
    Calls Tryd.prog 30 #[.slice A n c] w fun e w' => ∃ v, e = .returned v ∧ OBM 4 w.heap.size w v (sortedR rs).length (flatR (sortedR rs)) w' := by
  obtain ⟨i0, hi, hz0, hz1, hz2⟩ := info_parts4 rec_info
  have H := Lib.hid h
  have HL := Lib.hid hl
  clear h hl
  go_enter Tryd.func30, Tryd.ntmps30
  go_wp2_with fail
  go_loopw [3, 11] (fun v i wr => ∃ k : Nat, k ≤ n ∧ i = .int .i64 k ∧ Hid (OBM 4 w.heap.size w v (sortedR (rs.take k)).length (flatR (sortedR (rs.take k))) wr)) (fun _ i _ => n - (intOf i).toNat)
  case atStart => exact ⟨0, Nat.zero_le _, rfl, Lib.hid (by simpa [sortedR, flatR] using OBM.start (sz := 4) w)⟩
  case round =>
    obtain ⟨kk, hkk, rfl, HB⟩ := hrel
    by_cases hlt0 : kk < n
    · have hlt0' : (kk : Int) < n := by omega
      obtain ⟨r, hr⟩ : ∃ q, rs[kk]? = some q := ⟨_, List.getElem?_eq_getElem (by rw [HL.out]; exact hlt0)⟩
      obtain ⟨br, ofr, rfl, hbr, z0, z1, z2, z3⟩ := (H.out.below HB.out.bel) kk _ hr
      have HNX := Lib.hid (sortedR_next hr)
      have hle := sortedR_le (rs.take kk)
      obtain ⟨out, hout⟩ : ∃ out, sortedR (rs.take kk) = out := ⟨_, rfl⟩
      rw [hout] at HNX HB hle
      obtain ⟨M, hM⟩ : ∃ M, out.length = M := ⟨_, rfl⟩
      have hM6 : M ≤ 100000 := by rw [List.length_take] at hle; have := HL.out; omega
      rw [hM] at HB
      have HM := Lib.hid hM
      obtain ⟨AO, cO, rfl, hMc, hcm, hAO⟩ := HB.out.slice3
      obtain ⟨W1, hW1⟩ : ∃ W1, W1 = wr.alloc (.cells #[.string r.1, .int .u16 r.2.1, .int .u32 r.2.2.1, .string r.2.2.2] 41) := ⟨_, rfl⟩
      obtain ⟨g, hg⟩ : ∃ g, g = wr.heap.size := ⟨_, rfl⟩
      have hC : Cs W1 g [.string r.1, .int .u16 r.2.1, .int .u32 r.2.2.1, .string r.2.2.2] := by rw [hW1, hg]; exact Cs.new wr _ _ _
      have hbW1 : Below wr.heap.size wr W1 := by rw [hW1]; exact (Below.refl _ _).alloc (Nat.le_refl _) _
      have HW1 := Lib.hid hW1
      have HG := Lib.hid hg
      have HC1 := Lib.hid hC
      have HO1 := Lib.hid (HB.out.keep hbW1 (Nat.le_refl _))
      have HR1 : Hid (RowROk W1 (AO, M, cO, out)) := Lib.hid ⟨HO1.out.sl, fun e => hAO.elim (fun h => h.2.1) (fun ⟨g, h, _⟩ => (by dsimp only at e; rw [h] at e; cases e)), HM.out⟩
      have HB1 := Lib.hid (below_trans HB.out.bel HB.out.bel.size hbW1)
      have HAO : Hid ((AO = none ∧ M = 0 ∧ cO = 0) ∨ ∃ g, AO = some ⟨g, 0, none⟩) := Lib.hid (hAO.elim (fun h => .inl ⟨h.1, h.2.1, h.2.2⟩) (fun ⟨g, h, _⟩ => .inr ⟨g, h⟩))
      clear hr hle hout hM hW1 hg hC hbW1 hAO hcm
      go_wp2_with fail
      rw [← HW1.out, ← HG.out]
      clear z0 z1 z2 z3 hbr
      go_loopw [6] (fun i wr2 => ∃ k : Nat, k ≤ M ∧ i = .int .i64 k ∧ Hid (∀ q ∈ out.take k, lowB r q = true) ∧ Hid (Below W1.heap.size W1 wr2)) (fun i _ => M - (intOf i).toNat)
      case atStart => exact ⟨0, Nat.zero_le _, rfl, Lib.hid (by simp), Lib.hid (Below.refl _ _)⟩
      case round =>
        obtain ⟨k, hk, rfl, HK, HB2⟩ := hrel
        have HC2 := Lib.hid (HC1.out.below HB2.out)
        by_cases hlt : k < M
        · have hlt' : (k : Int) < M := by omega
          obtain ⟨q, hq⟩ : ∃ q, out[k]? = some q := ⟨_, List.getElem?_eq_getElem (by rw [HM.out]; exact hlt)⟩
          obtain ⟨b, off, he, hb, y0, y1, y2, y3⟩ := ((HR1.out.below HB2.out).sl.recs (Nat.le_refl _) HM.out) k _ hq
          dsimp only at he
          subst he
          have HZ := Lib.hid (And.intro y0 (And.intro y1 (And.intro y2 y3)))
          have HQ := Lib.hid hq
          have HHB := Lib.hid hb
          obtain ⟨m, hm⟩ : ∃ m, cmpR q r = m := ⟨_, rfl⟩
          have CM := Lib.hid (fun w => compare8_any q r w)
          rw [hm] at CM
          unfold recV at CM
          have HMM := Lib.hid hm
          clear hq hb y0 y1 y2 y3 hm
          by_cases hm0 : m < 0
          · go_upto_region 6 with fail
            refine wp_region_goesG data_follows (fun x => by simp [putsF, Act.put]; rfl) wr.heap.size wr
              [isV (.int .i64 (k : Nat)), isV (.slice (some ⟨b, off, none⟩) M cO), isV (.int .i64 (M : Nat)), isV (.bool true), isV (.bool true), isV (.slice (some ⟨b, off, none⟩) M cO), isV (.int .i64 (k : Nat)), isV (.pointer (some ⟨b, off + k * 4, none⟩)), isV (.agg #[.string q.1, .int .u16 q.2.1, .int .u32 q.2.2.1, .string q.2.2.2]), isV (.agg #[.string r.1, .int .u16 r.2.1, .int .u32 r.2.2.1, .string r.2.2.2]), isV (.int .i64 m), isV (.bool true), isV (.bool true)]
              (by kernel_rfl) (by kernel_rfl) (by kernel_rfl) rfl ?_ (Below.refl _ _) ?_ ?_
            · repeat (first | exact trivial | refine ⟨isV_stays _, ?_⟩)
            · refine ⟨?_, ?_, ?_, ?_, ?_, ?_, ?_, ?_, ?_, ?_, ?_, ?_, ?_, trivial⟩
              all_goals
                intro x wx hR hd
                simp at hd ⊢
              all_goals try simp [hd]
              · go_simp; exact next_same _ rfl rfl hR
              · go_simp; exact next_same _ rfl rfl hR
              · go_simp; exact next_same _ rfl rfl hR
              · go_simp; exact next_same _ rfl rfl hR
              · go_simp; exact next_same _ rfl rfl hR
              · go_simp; exact next_same _ rfl rfl hR
              · go_simp; exact next_same _ rfl rfl hR
              · go_simp; exact next_same _ rfl rfl hR
              · have y0 := (hR.cell (p := ⟨b, off + k * 4, none⟩) HHB.out).trans HZ.out.1
                have y1 := (hR.cell (p := ⟨b, off + k * 4 + 1, none⟩) HHB.out).trans HZ.out.2.1
                have y2 := (hR.cell (p := ⟨b, off + k * 4 + 2, none⟩) HHB.out).trans HZ.out.2.2.1
                have y3 := (hR.cell (p := ⟨b, off + k * 4 + 3, none⟩) HHB.out).trans HZ.out.2.2.2
                go_simp; exact next_same _ rfl rfl hR
              · have hc := HC2.out.below hR
                have c0 := hc.get 0 _
                have c1 := hc.get 1 _
                have c2 := hc.get 2 _
                have c3 := hc.get 3 _
                clear hc
                go_simp; exact next_same _ rfl rfl hR
              · go_simp
                go_at_call 55
                refine (CM.out wx).mono ?_
                rintro e w2 ⟨rfl, hb⟩
                exact next_call _ rfl rfl hR hR.size hb
              · go_simp; exact next_same _ rfl rfl hR
              · go_simp; exact next_same _ rfl rfl hR
            · intro x wx hR hx
              simp [AllWords] at hx
              have h12 : x 12 = .bool true := by simp [hx]
              have HB3 := Lib.hid (below_trans HB2.out HB2.out.size hR)
              rw [h12]
              clear hx
              go_wp2_with fail
              go_round
              case rel => exact ⟨k + 1, by omega, by go_num, Lib.hid (by rw [List.take_add_one, HQ.out]; intro p hp; exact (List.mem_append.1 hp).elim (fun hp => HK.out p hp) (fun hp => by simp at hp; rw [hp]; unfold lowB; rw [HMM.out]; simpa using hm0)), HB3⟩
              case measure => simp [intOf]; omega
          · have HE : Hid (∀ q, out[k]? = some q → lowB r q = false) := Lib.hid (by
              intro p hp
              rw [HQ.out] at hp
              injection hp with hp
              rw [← hp]
              unfold lowB; rw [HMM.out]; simpa using hm0)
            go_upto_region 6 with fail
            refine wp_region_goesG data_follows (fun x => by simp [putsF, Act.put]; rfl) wr.heap.size wr
              [isV (.int .i64 (k : Nat)), isV (.slice (some ⟨b, off, none⟩) M cO), isV (.int .i64 (M : Nat)), isV (.bool true), isV (.bool true), isV (.slice (some ⟨b, off, none⟩) M cO), isV (.int .i64 (k : Nat)), isV (.pointer (some ⟨b, off + k * 4, none⟩)), isV (.agg #[.string q.1, .int .u16 q.2.1, .int .u32 q.2.2.1, .string q.2.2.2]), isV (.agg #[.string r.1, .int .u16 r.2.1, .int .u32 r.2.2.1, .string r.2.2.2]), isV (.int .i64 m), isV (.bool false), isV (.bool false)]
              (by kernel_rfl) (by kernel_rfl) (by kernel_rfl) rfl ?_ (Below.refl _ _) ?_ ?_
            · repeat (first | exact trivial | refine ⟨isV_stays _, ?_⟩)
            · refine ⟨?_, ?_, ?_, ?_, ?_, ?_, ?_, ?_, ?_, ?_, ?_, ?_, ?_, trivial⟩
              all_goals
                intro x wx hR hd
                simp at hd ⊢
              all_goals try simp [hd]
              · go_simp; exact next_same _ rfl rfl hR
              · go_simp; exact next_same _ rfl rfl hR
              · go_simp; exact next_same _ rfl rfl hR
              · go_simp; exact next_same _ rfl rfl hR
              · go_simp; exact next_same _ rfl rfl hR
              · go_simp; exact next_same _ rfl rfl hR
              · go_simp; exact next_same _ rfl rfl hR
              · go_simp; exact next_same _ rfl rfl hR
              · have y0 := (hR.cell (p := ⟨b, off + k * 4, none⟩) HHB.out).trans HZ.out.1
                have y1 := (hR.cell (p := ⟨b, off + k * 4 + 1, none⟩) HHB.out).trans HZ.out.2.1
                have y2 := (hR.cell (p := ⟨b, off + k * 4 + 2, none⟩) HHB.out).trans HZ.out.2.2.1
                have y3 := (hR.cell (p := ⟨b, off + k * 4 + 3, none⟩) HHB.out).trans HZ.out.2.2.2
                go_simp; exact next_same _ rfl rfl hR
              · have hc := HC2.out.below hR
                have c0 := hc.get 0 _
                have c1 := hc.get 1 _
                have c2 := hc.get 2 _
                have c3 := hc.get 3 _
                clear hc
                go_simp; exact next_same _ rfl rfl hR
              · go_simp
                go_at_call 55
                refine (CM.out wx).mono ?_
                rintro e w2 ⟨rfl, hb⟩
                exact next_call _ rfl rfl hR hR.size hb
              · go_simp; exact next_same _ rfl rfl hR
              · go_simp; exact next_same _ rfl rfl hR
            · intro x wx hR hx
              simp [AllWords] at hx
              have h12 : x 12 = .bool false := by simp [hx]
              have HB3 := Lib.hid (below_trans HB2.out HB2.out.size hR)
              rw [h12]
              clear hx
              obtain ⟨t, ht⟩ : ∃ t, eqB q r = t := ⟨_, rfl⟩
              have EQL := Lib.hid (fun w => rec_eql q r w)
              rw [ht] at EQL
              unfold recV at EQL
              have HTT := Lib.hid ht
              have HZ := Lib.hid (And.intro ((hR.cell (p := ⟨b, off + k * 4, none⟩) HHB.out).trans HZ.out.1) (And.intro ((hR.cell (p := ⟨b, off + k * 4 + 1, none⟩) HHB.out).trans HZ.out.2.1) (And.intro ((hR.cell (p := ⟨b, off + k * 4 + 2, none⟩) HHB.out).trans HZ.out.2.2.1) ((hR.cell (p := ⟨b, off + k * 4 + 3, none⟩) HHB.out).trans HZ.out.2.2.2))))
              have HHB := Lib.hid (Nat.lt_of_lt_of_le HHB.out hR.size)
              have HC2 := Lib.hid (HC2.out.below hR)
              clear ht
              go_upto_region 8 with fail
              refine wp_region_goesG data_follows (fun x => by simp [putsF, Act.put]; rfl) wx.heap.size wx
                [isV (.int .i64 (k : Nat)), isV (.slice (some ⟨b, off, none⟩) M cO), isV (.int .i64 (M : Nat)), isV (.bool true), isV (.bool true), isV (.slice (some ⟨b, off, none⟩) M cO), isV (.int .i64 (k : Nat)), isV (.pointer (some ⟨b, off + k * 4, none⟩)), isV (.agg #[.string q.1, .int .u16 q.2.1, .int .u32 q.2.2.1, .string q.2.2.2]), isV (.agg #[.string r.1, .int .u16 r.2.1, .int .u32 r.2.2.1, .string r.2.2.2]), isV (.bool t), isV (.bool t), isV (.bool t)]
                (by kernel_rfl) (by kernel_rfl) (by kernel_rfl) rfl ?_ (Below.refl _ _) ?_ ?_
              · repeat (first | exact trivial | refine ⟨isV_stays _, ?_⟩)
              · refine ⟨?_, ?_, ?_, ?_, ?_, ?_, ?_, ?_, ?_, ?_, ?_, ?_, ?_, trivial⟩
                all_goals
                  intro x wv hR hd
                  simp at hd ⊢
                all_goals try simp [hd]
                · go_simp; exact next_same _ rfl rfl hR
                · go_simp; exact next_same _ rfl rfl hR
                · go_simp; exact next_same _ rfl rfl hR
                · go_simp; exact next_same _ rfl rfl hR
                · go_simp; exact next_same _ rfl rfl hR
                · go_simp; exact next_same _ rfl rfl hR
                · go_simp; exact next_same _ rfl rfl hR
                · go_simp; exact next_same _ rfl rfl hR
                · have y0 := (hR.cell (p := ⟨b, off + k * 4, none⟩) HHB.out).trans HZ.out.1
                  have y1 := (hR.cell (p := ⟨b, off + k * 4 + 1, none⟩) HHB.out).trans HZ.out.2.1
                  have y2 := (hR.cell (p := ⟨b, off + k * 4 + 2, none⟩) HHB.out).trans HZ.out.2.2.1
                  have y3 := (hR.cell (p := ⟨b, off + k * 4 + 3, none⟩) HHB.out).trans HZ.out.2.2.2
                  go_simp; exact next_same _ rfl rfl hR
                · have hc := HC2.out.below hR
                  have c0 := hc.get 0 _
                  have c1 := hc.get 1 _
                  have c2 := hc.get 2 _
                  have c3 := hc.get 3 _
                  clear hc
                  go_simp; exact next_same _ rfl rfl hR
                · have hnq := fun w => EQL.out w
                  go_simp; exact next_same _ rfl rfl hR
                · go_simp; exact next_same _ rfl rfl hR
                · go_simp; exact next_same _ rfl rfl hR
              · intro x8 wx8 hR8 hx8
                simp [AllWords] at hx8
                have h12 : x8 12 = .bool t := by simp [hx8]
                have HB4 := Lib.hid (below_trans HB3.out HB3.out.size hR8)
                rw [h12]
                clear hx8
                have HRX := Lib.hid (HR1.out.below HB4.out)
                have HCX := Lib.hid (HC1.out.below HB4.out)
                have HBX := Lib.hid (below_trans HB1.out HB1.out.size HB4.out)
                cases t with
                | true =>
                  have HSS := Lib.hid (step_same HK.out HE.out HQ.out HTT.out)
                  have HOX := Lib.hid (HO1.out.keep HB4.out (Nat.le_refl _))
                  go_wp2_with fail
                  go_round
                  case rel => exact ⟨kk + 1, by omega, by go_num, Lib.hid (by rw [HNX.out, HSS.out, HM.out]; exact HOX.out)⟩
                  case measure => simp [intOf]; omega
                | false =>
                  have HST := Lib.hid (step_new HK.out HE.out (fun p hp => by rw [HQ.out] at hp; injection hp with hp; rw [← hp]; exact HTT.out))
                  have HT1 : Hid (Src Tryd.prog 4 49 (.slice (some ⟨b, off, none⟩) k cO) k (flatR (out.take k)) wx8) := Lib.hid (((HRX.out.take k (by omega) cO).sl.srcM (P := Tryd.prog) (c := cO) (tx := 49) (e' := 41) (by kernel_rfl) (HRX.out.take k (by omega) cO).none_ (flatR_one _)))
                  have HT1L : Hid ((flatR (out.take k)).length = k * 4) := Lib.hid ((HRX.out.take k (by omega) cO).sl.1)
                  obtain ⟨A7, hA7⟩ : ∃ A7 : Option Addr, (if cO = k then some ⟨b, off, none⟩ else some ⟨b, off + k * 4, none⟩) = A7 := ⟨_, rfl⟩
                  have HR7 : Hid (∀ wy, Below wx8.heap.size wx8 wy → RowROk wy (A7, M - k, cO - k, out.drop k)) := Lib.hid (fun wy hb => by
                    rw [← hA7]
                    by_cases hck : cO = k
                    · rw [if_pos hck, List.drop_eq_nil_of_le (by have := HM.out; omega), show M - k = 0 by omega]
                      exact RowROk.nothing _ _ _
                    · rw [if_neg hck]
                      exact (HRX.out.below hb).drop k (by omega) _)
                  have hkc : k ≤ cO := by omega
                  have hkci : (k : Int) ≤ cO := by omega
                  have hkni : (k : Int) ≤ M := by omega
                  have hnci : (M : Int) ≤ cO := by omega
                  go_wp2_with (at_builtin; go_loud (refine wpList_append_obm rfl (.const (.slice none 0 0)) _ 49 49 rfl 41 i0 _ 40 (by kernel_rfl) hi hz0 hz1 hz2 rfl (OBM.start (sz := 4) wx8) rfl rfl HT1.out HT1L.out (by unfold maxLen; omega) (by omega) ?_))
                  intro v8 wz q1 q2 q3 q4
                  replace q1 : OBM 4 wx8.heap.size wx8 v8 k (flatR (out.take k)) wz := by simpa using q1
                  have HBZ := Lib.hid q1.bel
                  have HRZ := Lib.hid (HRX.out.below q1.bel)
                  have HCZ := Lib.hid (HCX.out.below q1.bel)
                  obtain ⟨A8, c8, rfl, -, -, -⟩ := q1.slice
                  have HO8 := Lib.hid (q1.out (Nat.le_refl _) (Below.refl _ _))
                  have hsz8 := q1.bel.size
                  clear q1 q2 q3 q4
                  go_upto_region 11 with fail
                  refine wp_region_expR data_follows (fun x => by simp [putsF, Act.put]; rfl) (fun d x v => Below wx8.heap.size wx8 v ∧ wx8.heap.size ≤ v.heap.size ∧ (d 3 = false → OBM 4 wx8.heap.size wx8 (.slice A8 k c8) k (flatR (out.take k)) v) ∧ (d 8 = false → x 8 = .slice (some ⟨b, off, none⟩) M cO))
                    [isX (.slice A8 k c8), isX (.agg #[.string r.1, .int .u16 r.2.1, .int .u32 r.2.2.1, .string r.2.2.2]), until_ 3 (litW 1 (recCells r)), until_ 7 (ownW 4 wx8.heap.size wx8 (k + 1) (flatR (out.take k ++ [r]))), isX (.slice (some ⟨b, off, none⟩) M cO), isX (.int .i64 (k : Nat)), isX (.slice A7 (M - k) (cO - k)), always (ownW 4 wx8.heap.size wx8 (M + 1) (flatR (out.take k ++ r :: out.drop k))), always (ownW 4 wx8.heap.size wx8 (M + 1) (flatR (out.take k ++ r :: out.drop k)))]
                    [3, 4, 7] (by kernel_rfl) (by kernel_rfl) (by kernel_rfl) rfl ?_ ⟨HBZ.out.drew, hsz8, fun _ => HO8.out.drewN 1, fun _ => rfl⟩ ?_ ?_ ?_
                  · repeat (first | exact trivial | refine ⟨by first | exact isX_stays _ | exact until_stays (ownW_stays _ _ _ _ _) | exact until_stays (litW_stays _ _) | exact always_stays (ownW_stays _ _ _ _ _), ?_⟩)
                  · refine ⟨?_, ?_, ?_, skipped rfl, skipped rfl, ?_, ?_, skipped rfl, ?_, trivial⟩
                    all_goals
                      intro _ d x wy hR hdi hsrc hd
                      refine ⟨fun _ => ?_, fun hX => by simp at hX⟩
                      simp [wordX, isX] at hd ⊢
                    · go_simp; exact nextXR _ rfl rfl ⟨hR.1, hR.2.1, fun h => hR.2.2.1 (setD_false h), held_next hR.2.2.2 (by decide)⟩ (Below.refl _ _)
                    · have hc := HCX.out.below hR.1
                      have c0 := hc.get 0 _
                      have c1 := hc.get 1 _
                      have c2 := hc.get 2 _
                      have c3 := hc.get 3 _
                      clear hc
                      go_simp; exact nextXR _ rfl rfl ⟨hR.1, hR.2.1, fun h => hR.2.2.1 (setD_false h), held_next hR.2.2.2 (by decide)⟩ (Below.refl _ _)
                    · go_simp; exact nextXR _ rfl (until_of (litW_new 1 _ _ _ _)) ⟨hR.1.alloc hR.2.1 _, by have := hR.2.1; simp; omega, fun h => (hR.2.2.1 (setD_false h)).alloc _, held_next hR.2.2.2 (by decide)⟩ ((Below.refl _ _).alloc (Nat.le_refl _) _)
                    · go_simp; exact nextXR _ rfl rfl ⟨hR.1, hR.2.1, fun h => hR.2.2.1 (setD_false h), held_next hR.2.2.2 (by decide)⟩ (Below.refl _ _)
                    · obtain ⟨hd0, hd1⟩ := hd; go_simp; exact nextXR _ rfl rfl ⟨hR.1, hR.2.1, fun h => hR.2.2.1 (setD_false h), held_next hR.2.2.2 (by decide)⟩ (Below.refl _ _)
                    · have hd7 : ownW 4 wx8.heap.size wx8 (M + 1) (flatR (out.take k ++ r :: out.drop k)) (x 7) wy := by first | exact hd | exact hd.1
                      go_simp; exact nextXR _ rfl hd7 ⟨hR.1, hR.2.1, fun h => hR.2.2.1 (setD_false h), held_self⟩ (Below.refl _ _)
                  · refine ⟨unskipped rfl, unskipped rfl, unskipped rfl, ?_, ?_, unskipped rfl, unskipped rfl, ?_, unskipped rfl, trivial⟩
                    · intro _ d x wy hR hdi hcl hsrc hd
                      refine ⟨fun _ => ?_, fun hX => by simp at hX⟩
                      have d0 : d 0 = true := SrcX.reach (K := 3) hcl hsrc rfl 20 0 (by decide) (by kernel_rfl)
                      have d2 : d 2 = true := SrcX.reach (K := 3) hcl hsrc rfl 20 2 (by decide) (by kernel_rfl)
                      simp only [DoneX] at hd
                      have h0 : x 0 = .slice A8 k c8 := hd.1 d0
                      obtain ⟨g2, hx2, hc2⟩ := hd.2.2.1 d2 hdi
                      have ho := hR.2.2.1 hdi
                      dsimp only
                      rw [h0, hx2]
                      refine oper_append_obk _ _ _ _ rfl 41 i0 _ 40 (by kernel_rfl) hi hz0 hz1 hz2 rfl ho rfl rfl
                        (Src.ofSlice _ (e' := 41) (by kernel_rfl) ⟨g2, 0, none⟩ 1 1 (recCells r) rfl (fun j u hu => by rw [Addr.add_lit, Nat.zero_add]; exact hc2.get j u hu) (by intro u hu; unfold recCells at hu; simp at hu; rcases hu with rfl | rfl | rfl | rfl <;> rfl)) rfl (by unfold maxLen; omega) (by omega) ?_
                      intro v' w' q1 q2 q3 q4 q5
                      rw [← flatR_snoc] at q1
                      refine nextKR v' rfl (until_of q1) ⟨q1.bel, q1.base, fun h => absurd h (by simp [setD]), held_next hR.2.2.2 (by decide)⟩ ?_
                      refine ⟨fun _ _ h => h, fun _ _ h => h, fun _ _ _ => until_self, fun h => absurd rfl h, fun _ _ h => h, fun _ _ h => h, fun _ _ h => h, fun _ h7 _ => ?_, fun _ h8 _ => ?_, trivial⟩
                      · have := hcl.reach 20 3 7 (by kernel_rfl) h7
                        rw [hdi] at this; cases this
                      · have := hcl.reach 20 3 8 (by kernel_rfl) h8
                        rw [hdi] at this; cases this
                    · intro _ d x wy hR hdi hcl hsrc hd
                      refine ⟨fun _ => ?_, fun hX => by simp at hX⟩
                      have d8 : d 8 = false := by
                        cases e : d 8 with
                        | false => rfl
                        | true => have := hcl.reach 20 4 8 (by kernel_rfl) e; rw [hdi] at this; cases this
                      have hx8 := hR.2.2.2 d8
                      dsimp only
                      rw [hx8]
                      go_simp
                      refine nextKR _ rfl rfl ⟨hR.1, hR.2.1, fun h => hR.2.2.1 (setD_false h), held_next hR.2.2.2 (by decide)⟩ ?_
                      exact ⟨fun _ _ h => h, fun _ _ h => h, fun _ _ h => until_mono h, fun _ _ h => until_mono h, fun h => absurd rfl h, fun _ _ h => h, fun _ _ h => h, fun _ _ h => h, fun _ _ h => h, trivial⟩
                    · intro _ d x wy hR hdi hcl hsrc hd
                      refine ⟨fun _ => ?_, fun hX => by simp at hX⟩
                      have d3 : d 3 = true := SrcX.reach (K := 7) hcl hsrc rfl 20 3 (by decide) (by kernel_rfl)
                      have d6 : d 6 = true := SrcX.reach (K := 7) hcl hsrc rfl 20 6 (by decide) (by kernel_rfl)
                      simp only [DoneX] at hd
                      have h6 : x 6 = .slice A7 (M - k) (cO - k) := hd.2.2.2.2.2.2.1 d6
                      have ho : OBM 4 wx8.heap.size wx8 (x 3) (k + 1) (flatR (out.take k ++ [r])) wy := hd.2.2.2.1 d3 hdi
                      have h3r := HR7.out wy hR.1
                      dsimp only
                      rw [h6]
                      refine oper_append_obk _ _ _ _ rfl 41 i0 _ 40 (by kernel_rfl) hi hz0 hz1 hz2 rfl ho rfl rfl
                        (h3r.sl.srcM (P := Tryd.prog) (e' := 41) (by kernel_rfl) h3r.none_ (flatR_one _)) h3r.sl.1 (by unfold maxLen; first | omega | (dsimp only; omega)) (by first | omega | (dsimp only; omega)) ?_
                      intro v' w' q1 q2 q3 q4 q5
                      have q1' : OBM 4 wx8.heap.size wx8 v' (M + 1) (flatR (out.take k ++ r :: out.drop k)) w' := by
                        have e1 : flatR (out.take k ++ [r]) ++ flatR (out.drop k) = flatR (out.take k ++ r :: out.drop k) := by rw [← flatR_append]; simp
                        have e2 : k + 1 + (M - k) = M + 1 := by omega
                        rw [← e1, ← e2]; exact q1
                      refine nextKR v' rfl q1' ⟨q1.bel, q1.base, fun h => absurd (setD_false h) (by rw [d3]; simp), held_next hR.2.2.2 (by decide)⟩ ?_
                      refine ⟨fun _ _ h => h, fun _ _ h => h, fun _ _ _ => until_done d3, fun _ _ _ => until_self, fun _ _ h => h, fun _ _ h => h, fun _ _ h => h, fun h => absurd rfl h, fun _ h8 _ => ?_, trivial⟩
                      have := hcl.reach 20 7 8 (by kernel_rfl) h8
                      rw [hdi] at this; cases this
                  · intro x wy d hall hR hx
                    obtain ⟨-, -, -, -, -, -, -, -, ho, -⟩ := hx
                    have ho : OBM 4 wx8.heap.size wx8 (x 8) (M + 1) (flatR (out.take k ++ r :: out.drop k)) wy := ho
                    obtain ⟨AF, cF, hF, -, -, -⟩ := ho.slice
                    have HF := Lib.hid (ho.out HBX.out.size HBX.out)
                    rw [hF] at HF ⊢
                    clear ho hF hR
                    go_wp2_with fail
                    go_round
                    case rel => exact ⟨kk + 1, by omega, by go_num, Lib.hid (by rw [HNX.out, HST.out, insR_split_len (k := k) (by have := HM.out; omega), HM.out]; exact HF.out)⟩
                    case measure => simp [intOf]; omega
        · obtain rfl : k = M := by omega
          have hlt' : ¬ (k : Int) < k := by omega
          have HNO : Hid (∀ q, out[k]? = some q → False) := Lib.hid (by
            intro p hp
            have := (List.getElem?_eq_some_iff.1 hp).1
            have := HM.out
            omega)
          have HST := Lib.hid (step_new HK.out (fun p hp => (HNO.out p hp).elim) (fun p hp => (HNO.out p hp).elim))
          rcases HAO.out with ⟨rfl, hM0, hc0⟩ | ⟨gO, rfl⟩
          · have HM0 := Lib.hid (And.intro hM0 hc0)
            clear hM0 hc0
            go_upto_region 6 with fail
            refine wp_region_goesG data_follows (fun x => by simp [putsF, Act.put]; rfl) wr.heap.size wr
              [isV (.int .i64 (k : Nat)), isV (.slice none k cO), isV (.int .i64 (k : Nat)), isV (.bool false), isV (.bool false), isV undef, isV undef, isV undef, isV undef, isV undef, isV undef, isV undef, isV (.bool false)]
              (by kernel_rfl) (by kernel_rfl) (by kernel_rfl) rfl ?_ (Below.refl _ _) ?_ ?_
            · repeat (first | exact trivial | refine ⟨isV_stays _, ?_⟩)
            · refine ⟨?_, ?_, ?_, ?_, ?_, ?_, ?_, ?_, ?_, ?_, ?_, ?_, ?_, trivial⟩
              all_goals
                intro x wx hR hd
                simp at hd ⊢
              all_goals try simp [hd]
              · go_simp; exact next_same _ rfl rfl hR
              · go_simp; exact next_same _ rfl rfl hR
              · go_simp; exact next_same _ rfl rfl hR
              · go_simp; exact next_same _ rfl rfl hR
              · go_simp; exact next_same _ rfl rfl hR
              · go_simp; exact next_same _ rfl rfl hR
            · intro x wx hR hx
              simp [AllWords] at hx
              have h12 : x 12 = .bool false := by simp [hx]
              have HB3 := Lib.hid (below_trans HB2.out HB2.out.size hR)
              rw [h12]
              clear hx
              go_upto_region 8 with fail
              refine wp_region_goesG data_follows (fun x => by simp [putsF, Act.put]; rfl) wx.heap.size wx
                [isV (.int .i64 (k : Nat)), isV (.slice none k cO), isV (.int .i64 (k : Nat)), isV (.bool false), isV (.bool false), isV undef, isV undef, isV undef, isV undef, isV undef, isV undef, isV (.bool false), isV (.bool false)]
                (by kernel_rfl) (by kernel_rfl) (by kernel_rfl) rfl ?_ (Below.refl _ _) ?_ ?_
              · repeat (first | exact trivial | refine ⟨isV_stays _, ?_⟩)
              · refine ⟨?_, ?_, ?_, ?_, ?_, ?_, ?_, ?_, ?_, ?_, ?_, ?_, ?_, trivial⟩
                all_goals
                  intro x wv hR hd
                  simp at hd ⊢
                all_goals try simp [hd]
                · go_simp; exact next_same _ rfl rfl hR
                · go_simp; exact next_same _ rfl rfl hR
                · go_simp; exact next_same _ rfl rfl hR
                · go_simp; exact next_same _ rfl rfl hR
                · go_simp; exact next_same _ rfl rfl hR
                · go_simp; exact next_same _ rfl rfl hR
                · go_simp; exact next_same _ rfl rfl hR
              · intro x8 wx8 hR8 hx8
                simp [AllWords] at hx8
                have h12 : x8 12 = .bool false := by simp [hx8]
                have HB4 := Lib.hid (below_trans HB3.out HB3.out.size hR8)
                rw [h12]
                clear hx8
                have HRX := Lib.hid (HR1.out.below HB4.out)
                have HCX := Lib.hid (HC1.out.below HB4.out)
                have HBX := Lib.hid (below_trans HB1.out HB1.out.size HB4.out)
                have HT1 : Hid (Src Tryd.prog 4 49 (.slice none k cO) k (flatR (out.take k)) wx8) := Lib.hid (((HRX.out.take k (by omega) cO).sl.srcM (P := Tryd.prog) (c := cO) (tx := 49) (e' := 41) (by kernel_rfl) (HRX.out.take k (by omega) cO).none_ (flatR_one _)))
                have HT1L : Hid ((flatR (out.take k)).length = k * 4) := Lib.hid ((HRX.out.take k (by omega) cO).sl.1)
                have HR7 : Hid (∀ wy, Below wx8.heap.size wx8 wy → RowROk wy (none, 0, cO - k, out.drop k)) := Lib.hid (fun wy hb => by
                  rw [List.drop_eq_nil_of_le (by have := HM.out; omega)]
                  exact RowROk.nothing _ _ _)
                have hkc : k ≤ cO := by omega
                have hkci : (k : Int) ≤ cO := by omega
                go_wp2_with (at_builtin; go_loud (refine wpList_append_obm rfl (.const (.slice none 0 0)) _ 49 49 rfl 41 i0 _ 40 (by kernel_rfl) hi hz0 hz1 hz2 rfl (OBM.start (sz := 4) wx8) rfl rfl HT1.out HT1L.out (by unfold maxLen; omega) (by omega) ?_))
                intro v8 wz q1 q2 q3 q4
                replace q1 : OBM 4 wx8.heap.size wx8 v8 k (flatR (out.take k)) wz := by simpa using q1
                have HBZ := Lib.hid q1.bel
                have HRZ := Lib.hid (HRX.out.below q1.bel)
                have HCZ := Lib.hid (HCX.out.below q1.bel)
                obtain ⟨A8, c8, rfl, -, -, -⟩ := q1.slice
                have HO8 := Lib.hid (q1.out (Nat.le_refl _) (Below.refl _ _))
                have hsz8 := q1.bel.size
                clear q1 q2 q3 q4
                go_upto_region 11 with fail
                refine wp_region_expR data_follows (fun x => by simp [putsF, Act.put]; rfl) (fun d x v => Below wx8.heap.size wx8 v ∧ wx8.heap.size ≤ v.heap.size ∧ (d 3 = false → OBM 4 wx8.heap.size wx8 (.slice A8 k c8) k (flatR (out.take k)) v) ∧ (d 8 = false → x 8 = .slice none k cO))
                  [isX (.slice A8 k c8), isX (.agg #[.string r.1, .int .u16 r.2.1, .int .u32 r.2.2.1, .string r.2.2.2]), until_ 3 (litW 1 (recCells r)), until_ 7 (ownW 4 wx8.heap.size wx8 (k + 1) (flatR (out.take k ++ [r]))), isX (.slice none k cO), isX (.int .i64 (k : Nat)), isX (.slice none 0 (cO - k)), always (ownW 4 wx8.heap.size wx8 (k + 1) (flatR (out.take k ++ r :: out.drop k))), always (ownW 4 wx8.heap.size wx8 (k + 1) (flatR (out.take k ++ r :: out.drop k)))]
                  [3, 4, 7] (by kernel_rfl) (by kernel_rfl) (by kernel_rfl) rfl ?_ ⟨HBZ.out.drew, hsz8, fun _ => HO8.out.drewN 1, fun _ => rfl⟩ ?_ ?_ ?_
                · repeat (first | exact trivial | refine ⟨by first | exact isX_stays _ | exact until_stays (ownW_stays _ _ _ _ _) | exact until_stays (litW_stays _ _) | exact always_stays (ownW_stays _ _ _ _ _), ?_⟩)
                · refine ⟨?_, ?_, ?_, skipped rfl, skipped rfl, ?_, ?_, skipped rfl, ?_, trivial⟩
                  all_goals
                    intro _ d x wy hR hdi hsrc hd
                    refine ⟨fun _ => ?_, fun hX => by simp at hX⟩
                    simp [wordX, isX] at hd ⊢
                  · go_simp; exact nextXR _ rfl rfl ⟨hR.1, hR.2.1, fun h => hR.2.2.1 (setD_false h), held_next hR.2.2.2 (by decide)⟩ (Below.refl _ _)
                  · have hc := HCX.out.below hR.1
                    have c0 := hc.get 0 _
                    have c1 := hc.get 1 _
                    have c2 := hc.get 2 _
                    have c3 := hc.get 3 _
                    clear hc
                    go_simp; exact nextXR _ rfl rfl ⟨hR.1, hR.2.1, fun h => hR.2.2.1 (setD_false h), held_next hR.2.2.2 (by decide)⟩ (Below.refl _ _)
                  · go_simp; exact nextXR _ rfl (until_of (litW_new 1 _ _ _ _)) ⟨hR.1.alloc hR.2.1 _, by have := hR.2.1; simp; omega, fun h => (hR.2.2.1 (setD_false h)).alloc _, held_next hR.2.2.2 (by decide)⟩ ((Below.refl _ _).alloc (Nat.le_refl _) _)
                  · go_simp; exact nextXR _ rfl rfl ⟨hR.1, hR.2.1, fun h => hR.2.2.1 (setD_false h), held_next hR.2.2.2 (by decide)⟩ (Below.refl _ _)
                  · obtain ⟨hd0, hd1⟩ := hd; go_simp; exact nextXR _ rfl rfl ⟨hR.1, hR.2.1, fun h => hR.2.2.1 (setD_false h), held_next hR.2.2.2 (by decide)⟩ (Below.refl _ _)
                  · have hd7 : ownW 4 wx8.heap.size wx8 (k + 1) (flatR (out.take k ++ r :: out.drop k)) (x 7) wy := by first | exact hd | exact hd.1
                    go_simp; exact nextXR _ rfl hd7 ⟨hR.1, hR.2.1, fun h => hR.2.2.1 (setD_false h), held_self⟩ (Below.refl _ _)
                · refine ⟨unskipped rfl, unskipped rfl, unskipped rfl, ?_, ?_, unskipped rfl, unskipped rfl, ?_, unskipped rfl, trivial⟩
                  · intro _ d x wy hR hdi hcl hsrc hd
                    refine ⟨fun _ => ?_, fun hX => by simp at hX⟩
                    have d0 : d 0 = true := SrcX.reach (K := 3) hcl hsrc rfl 20 0 (by decide) (by kernel_rfl)
                    have d2 : d 2 = true := SrcX.reach (K := 3) hcl hsrc rfl 20 2 (by decide) (by kernel_rfl)
                    simp only [DoneX] at hd
                    have h0 : x 0 = .slice A8 k c8 := hd.1 d0
                    obtain ⟨g2, hx2, hc2⟩ := hd.2.2.1 d2 hdi
                    have ho := hR.2.2.1 hdi
                    dsimp only
                    rw [h0, hx2]
                    refine oper_append_obk _ _ _ _ rfl 41 i0 _ 40 (by kernel_rfl) hi hz0 hz1 hz2 rfl ho rfl rfl
                      (Src.ofSlice _ (e' := 41) (by kernel_rfl) ⟨g2, 0, none⟩ 1 1 (recCells r) rfl (fun j u hu => by rw [Addr.add_lit, Nat.zero_add]; exact hc2.get j u hu) (by intro u hu; unfold recCells at hu; simp at hu; rcases hu with rfl | rfl | rfl | rfl <;> rfl)) rfl (by unfold maxLen; omega) (by omega) ?_
                    intro v' w' q1 q2 q3 q4 q5
                    rw [← flatR_snoc] at q1
                    refine nextKR v' rfl (until_of q1) ⟨q1.bel, q1.base, fun h => absurd h (by simp [setD]), held_next hR.2.2.2 (by decide)⟩ ?_
                    refine ⟨fun _ _ h => h, fun _ _ h => h, fun _ _ _ => until_self, fun h => absurd rfl h, fun _ _ h => h, fun _ _ h => h, fun _ _ h => h, fun _ h7 _ => ?_, fun _ h8 _ => ?_, trivial⟩
                    · have := hcl.reach 20 3 7 (by kernel_rfl) h7
                      rw [hdi] at this; cases this
                    · have := hcl.reach 20 3 8 (by kernel_rfl) h8
                      rw [hdi] at this; cases this
                  · intro _ d x wy hR hdi hcl hsrc hd
                    refine ⟨fun _ => ?_, fun hX => by simp at hX⟩
                    have d8 : d 8 = false := by
                      cases e : d 8 with
                      | false => rfl
                      | true => have := hcl.reach 20 4 8 (by kernel_rfl) e; rw [hdi] at this; cases this
                    have hx8 := hR.2.2.2 d8
                    dsimp only
                    rw [hx8]
                    go_simp
                    refine nextKR _ rfl rfl ⟨hR.1, hR.2.1, fun h => hR.2.2.1 (setD_false h), held_next hR.2.2.2 (by decide)⟩ ?_
                    exact ⟨fun _ _ h => h, fun _ _ h => h, fun _ _ h => until_mono h, fun _ _ h => until_mono h, fun h => absurd rfl h, fun _ _ h => h, fun _ _ h => h, fun _ _ h => h, fun _ _ h => h, trivial⟩
                  · intro _ d x wy hR hdi hcl hsrc hd
                    refine ⟨fun _ => ?_, fun hX => by simp at hX⟩
                    have d3 : d 3 = true := SrcX.reach (K := 7) hcl hsrc rfl 20 3 (by decide) (by kernel_rfl)
                    have d6 : d 6 = true := SrcX.reach (K := 7) hcl hsrc rfl 20 6 (by decide) (by kernel_rfl)
                    simp only [DoneX] at hd
                    have h6 : x 6 = .slice none 0 (cO - k) := hd.2.2.2.2.2.2.1 d6
                    have ho : OBM 4 wx8.heap.size wx8 (x 3) (k + 1) (flatR (out.take k ++ [r])) wy := hd.2.2.2.1 d3 hdi
                    have h3r := HR7.out wy hR.1
                    dsimp only
                    rw [h6]
                    refine oper_append_obk _ _ _ _ rfl 41 i0 _ 40 (by kernel_rfl) hi hz0 hz1 hz2 rfl ho rfl rfl
                      (h3r.sl.srcM (P := Tryd.prog) (e' := 41) (by kernel_rfl) h3r.none_ (flatR_one _)) h3r.sl.1 (by unfold maxLen; first | omega | (dsimp only; omega)) (by first | omega | (dsimp only; omega)) ?_
                    intro v' w' q1 q2 q3 q4 q5
                    have q1' : OBM 4 wx8.heap.size wx8 v' (k + 1) (flatR (out.take k ++ r :: out.drop k)) w' := by
                      have e1 : flatR (out.take k ++ [r]) ++ flatR (out.drop k) = flatR (out.take k ++ r :: out.drop k) := by rw [← flatR_append]; simp
                      have e2 : k + 1 + 0 = k + 1 := by omega
                      rw [← e1, ← e2]; exact q1
                    refine nextKR v' rfl q1' ⟨q1.bel, q1.base, fun h => absurd (setD_false h) (by rw [d3]; simp), held_next hR.2.2.2 (by decide)⟩ ?_
                    refine ⟨fun _ _ h => h, fun _ _ h => h, fun _ _ _ => until_done d3, fun _ _ _ => until_self, fun _ _ h => h, fun _ _ h => h, fun _ _ h => h, fun h => absurd rfl h, fun _ h8 _ => ?_, trivial⟩
                    have := hcl.reach 20 7 8 (by kernel_rfl) h8
                    rw [hdi] at this; cases this
                · intro x wy d hall hR hx
                  obtain ⟨-, -, -, -, -, -, -, -, ho, -⟩ := hx
                  have ho : OBM 4 wx8.heap.size wx8 (x 8) (k + 1) (flatR (out.take k ++ r :: out.drop k)) wy := ho
                  obtain ⟨AF, cF, hF, -, -, -⟩ := ho.slice
                  have HF := Lib.hid (ho.out HBX.out.size HBX.out)
                  rw [hF] at HF ⊢
                  clear ho hF hR
                  go_wp2_with fail
                  go_round
                  case rel => exact ⟨kk + 1, by omega, by go_num, Lib.hid (by rw [HNX.out, HST.out, insR_split_len (k := k) (by have := HM.out; omega), HM.out]; exact HF.out)⟩
                  case measure => simp [intOf]; omega
          · have hgO : gO = gO := rfl
            go_upto_region 6 with fail
            refine wp_region_goesG data_follows (fun x => by simp [putsF, Act.put]; rfl) wr.heap.size wr
              [isV (.int .i64 (k : Nat)), isV (.slice (some ⟨gO, 0, none⟩) k cO), isV (.int .i64 (k : Nat)), isV (.bool false), isV (.bool false), isV undef, isV undef, isV undef, isV undef, isV undef, isV undef, isV undef, isV (.bool false)]
              (by kernel_rfl) (by kernel_rfl) (by kernel_rfl) rfl ?_ (Below.refl _ _) ?_ ?_
            · repeat (first | exact trivial | refine ⟨isV_stays _, ?_⟩)
            · refine ⟨?_, ?_, ?_, ?_, ?_, ?_, ?_, ?_, ?_, ?_, ?_, ?_, ?_, trivial⟩
              all_goals
                intro x wx hR hd
                simp at hd ⊢
              all_goals try simp [hd]
              · go_simp; exact next_same _ rfl rfl hR
              · go_simp; exact next_same _ rfl rfl hR
              · go_simp; exact next_same _ rfl rfl hR
              · go_simp; exact next_same _ rfl rfl hR
              · go_simp; exact next_same _ rfl rfl hR
              · go_simp; exact next_same _ rfl rfl hR
            · intro x wx hR hx
              simp [AllWords] at hx
              have h12 : x 12 = .bool false := by simp [hx]
              have HB3 := Lib.hid (below_trans HB2.out HB2.out.size hR)
              rw [h12]
              clear hx
              go_upto_region 8 with fail
              refine wp_region_goesG data_follows (fun x => by simp [putsF, Act.put]; rfl) wx.heap.size wx
                [isV (.int .i64 (k : Nat)), isV (.slice (some ⟨gO, 0, none⟩) k cO), isV (.int .i64 (k : Nat)), isV (.bool false), isV (.bool false), isV undef, isV undef, isV undef, isV undef, isV undef, isV undef, isV (.bool false), isV (.bool false)]
                (by kernel_rfl) (by kernel_rfl) (by kernel_rfl) rfl ?_ (Below.refl _ _) ?_ ?_
              · repeat (first | exact trivial | refine ⟨isV_stays _, ?_⟩)
              · refine ⟨?_, ?_, ?_, ?_, ?_, ?_, ?_, ?_, ?_, ?_, ?_, ?_, ?_, trivial⟩
                all_goals
                  intro x wv hR hd
                  simp at hd ⊢
                all_goals try simp [hd]
                · go_simp; exact next_same _ rfl rfl hR
                · go_simp; exact next_same _ rfl rfl hR
                · go_simp; exact next_same _ rfl rfl hR
                · go_simp; exact next_same _ rfl rfl hR
                · go_simp; exact next_same _ rfl rfl hR
                · go_simp; exact next_same _ rfl rfl hR
                · go_simp; exact next_same _ rfl rfl hR
              · intro x8 wx8 hR8 hx8
                simp [AllWords] at hx8
                have h12 : x8 12 = .bool false := by simp [hx8]
                have HB4 := Lib.hid (below_trans HB3.out HB3.out.size hR8)
                rw [h12]
                clear hx8
                have HRX := Lib.hid (HR1.out.below HB4.out)
                have HCX := Lib.hid (HC1.out.below HB4.out)
                have HBX := Lib.hid (below_trans HB1.out HB1.out.size HB4.out)
                have HT1 : Hid (Src Tryd.prog 4 49 (.slice (some ⟨gO, 0, none⟩) k cO) k (flatR (out.take k)) wx8) := Lib.hid (((HRX.out.take k (by omega) cO).sl.srcM (P := Tryd.prog) (c := cO) (tx := 49) (e' := 41) (by kernel_rfl) (HRX.out.take k (by omega) cO).none_ (flatR_one _)))
                have HT1L : Hid ((flatR (out.take k)).length = k * 4) := Lib.hid ((HRX.out.take k (by omega) cO).sl.1)
                obtain ⟨A7, hA7⟩ : ∃ A7 : Option Addr, (if cO = k then some ⟨gO, 0, none⟩ else some ⟨gO, k * 4, none⟩) = A7 := ⟨_, rfl⟩
                have HR7 : Hid (∀ wy, Below wx8.heap.size wx8 wy → RowROk wy (A7, 0, cO - k, out.drop k)) := Lib.hid (fun wy hb => by
                  rw [← hA7]
                  by_cases hck : cO = k
                  · rw [if_pos hck, List.drop_eq_nil_of_le (by have := HM.out; omega)]
                    exact RowROk.nothing _ _ _
                  · rw [if_neg hck]
                    have := (HRX.out.below hb).drop k (by omega) (cO - k)
                    rwa [Nat.sub_self, Nat.zero_add] at this)
                have hkc : k ≤ cO := by omega
                have hkci : (k : Int) ≤ cO := by omega
                have hkni : (k : Int) ≤ k := by omega
                have hnci : (k : Int) ≤ cO := by omega
                go_wp2_with (at_builtin; go_loud (refine wpList_append_obm rfl (.const (.slice none 0 0)) _ 49 49 rfl 41 i0 _ 40 (by kernel_rfl) hi hz0 hz1 hz2 rfl (OBM.start (sz := 4) wx8) rfl rfl HT1.out HT1L.out (by unfold maxLen; omega) (by omega) ?_))
                intro v8 wz q1 q2 q3 q4
                replace q1 : OBM 4 wx8.heap.size wx8 v8 k (flatR (out.take k)) wz := by simpa using q1
                have HBZ := Lib.hid q1.bel
                have HRZ := Lib.hid (HRX.out.below q1.bel)
                have HCZ := Lib.hid (HCX.out.below q1.bel)
                obtain ⟨A8, c8, rfl, -, -, -⟩ := q1.slice
                have HO8 := Lib.hid (q1.out (Nat.le_refl _) (Below.refl _ _))
                have hsz8 := q1.bel.size
                clear q1 q2 q3 q4
                go_upto_region 11 with fail
                refine wp_region_expR data_follows (fun x => by simp [putsF, Act.put]; rfl) (fun d x v => Below wx8.heap.size wx8 v ∧ wx8.heap.size ≤ v.heap.size ∧ (d 3 = false → OBM 4 wx8.heap.size wx8 (.slice A8 k c8) k (flatR (out.take k)) v) ∧ (d 8 = false → x 8 = .slice (some ⟨gO, 0, none⟩) k cO))
                  [isX (.slice A8 k c8), isX (.agg #[.string r.1, .int .u16 r.2.1, .int .u32 r.2.2.1, .string r.2.2.2]), until_ 3 (litW 1 (recCells r)), until_ 7 (ownW 4 wx8.heap.size wx8 (k + 1) (flatR (out.take k ++ [r]))), isX (.slice (some ⟨gO, 0, none⟩) k cO), isX (.int .i64 (k : Nat)), isX (.slice A7 0 (cO - k)), always (ownW 4 wx8.heap.size wx8 (k + 1) (flatR (out.take k ++ r :: out.drop k))), always (ownW 4 wx8.heap.size wx8 (k + 1) (flatR (out.take k ++ r :: out.drop k)))]
                  [3, 4, 7] (by kernel_rfl) (by kernel_rfl) (by kernel_rfl) rfl ?_ ⟨HBZ.out.drew, hsz8, fun _ => HO8.out.drewN 1, fun _ => rfl⟩ ?_ ?_ ?_
                · repeat (first | exact trivial | refine ⟨by first | exact isX_stays _ | exact until_stays (ownW_stays _ _ _ _ _) | exact until_stays (litW_stays _ _) | exact always_stays (ownW_stays _ _ _ _ _), ?_⟩)
                · refine ⟨?_, ?_, ?_, skipped rfl, skipped rfl, ?_, ?_, skipped rfl, ?_, trivial⟩
                  all_goals
                    intro _ d x wy hR hdi hsrc hd
                    refine ⟨fun _ => ?_, fun hX => by simp at hX⟩
                    simp [wordX, isX] at hd ⊢
                  · go_simp; exact nextXR _ rfl rfl ⟨hR.1, hR.2.1, fun h => hR.2.2.1 (setD_false h), held_next hR.2.2.2 (by decide)⟩ (Below.refl _ _)
                  · have hc := HCX.out.below hR.1
                    have c0 := hc.get 0 _
                    have c1 := hc.get 1 _
                    have c2 := hc.get 2 _
                    have c3 := hc.get 3 _
                    clear hc
                    go_simp; exact nextXR _ rfl rfl ⟨hR.1, hR.2.1, fun h => hR.2.2.1 (setD_false h), held_next hR.2.2.2 (by decide)⟩ (Below.refl _ _)
                  · go_simp; exact nextXR _ rfl (until_of (litW_new 1 _ _ _ _)) ⟨hR.1.alloc hR.2.1 _, by have := hR.2.1; simp; omega, fun h => (hR.2.2.1 (setD_false h)).alloc _, held_next hR.2.2.2 (by decide)⟩ ((Below.refl _ _).alloc (Nat.le_refl _) _)
                  · go_simp; exact nextXR _ rfl rfl ⟨hR.1, hR.2.1, fun h => hR.2.2.1 (setD_false h), held_next hR.2.2.2 (by decide)⟩ (Below.refl _ _)
                  · obtain ⟨hd0, hd1⟩ := hd; go_simp; exact nextXR _ rfl rfl ⟨hR.1, hR.2.1, fun h => hR.2.2.1 (setD_false h), held_next hR.2.2.2 (by decide)⟩ (Below.refl _ _)
                  · have hd7 : ownW 4 wx8.heap.size wx8 (k + 1) (flatR (out.take k ++ r :: out.drop k)) (x 7) wy := by first | exact hd | exact hd.1
                    go_simp; exact nextXR _ rfl hd7 ⟨hR.1, hR.2.1, fun h => hR.2.2.1 (setD_false h), held_self⟩ (Below.refl _ _)
                · refine ⟨unskipped rfl, unskipped rfl, unskipped rfl, ?_, ?_, unskipped rfl, unskipped rfl, ?_, unskipped rfl, trivial⟩
                  · intro _ d x wy hR hdi hcl hsrc hd
                    refine ⟨fun _ => ?_, fun hX => by simp at hX⟩
                    have d0 : d 0 = true := SrcX.reach (K := 3) hcl hsrc rfl 20 0 (by decide) (by kernel_rfl)
                    have d2 : d 2 = true := SrcX.reach (K := 3) hcl hsrc rfl 20 2 (by decide) (by kernel_rfl)
                    simp only [DoneX] at hd
                    have h0 : x 0 = .slice A8 k c8 := hd.1 d0
                    obtain ⟨g2, hx2, hc2⟩ := hd.2.2.1 d2 hdi
                    have ho := hR.2.2.1 hdi
                    dsimp only
                    rw [h0, hx2]
                    refine oper_append_obk _ _ _ _ rfl 41 i0 _ 40 (by kernel_rfl) hi hz0 hz1 hz2 rfl ho rfl rfl
                      (Src.ofSlice _ (e' := 41) (by kernel_rfl) ⟨g2, 0, none⟩ 1 1 (recCells r) rfl (fun j u hu => by rw [Addr.add_lit, Nat.zero_add]; exact hc2.get j u hu) (by intro u hu; unfold recCells at hu; simp at hu; rcases hu with rfl | rfl | rfl | rfl <;> rfl)) rfl (by unfold maxLen; omega) (by omega) ?_
                    intro v' w' q1 q2 q3 q4 q5
                    rw [← flatR_snoc] at q1
                    refine nextKR v' rfl (until_of q1) ⟨q1.bel, q1.base, fun h => absurd h (by simp [setD]), held_next hR.2.2.2 (by decide)⟩ ?_
                    refine ⟨fun _ _ h => h, fun _ _ h => h, fun _ _ _ => until_self, fun h => absurd rfl h, fun _ _ h => h, fun _ _ h => h, fun _ _ h => h, fun _ h7 _ => ?_, fun _ h8 _ => ?_, trivial⟩
                    · have := hcl.reach 20 3 7 (by kernel_rfl) h7
                      rw [hdi] at this; cases this
                    · have := hcl.reach 20 3 8 (by kernel_rfl) h8
                      rw [hdi] at this; cases this
                  · intro _ d x wy hR hdi hcl hsrc hd
                    refine ⟨fun _ => ?_, fun hX => by simp at hX⟩
                    have d8 : d 8 = false := by
                      cases e : d 8 with
                      | false => rfl
                      | true => have := hcl.reach 20 4 8 (by kernel_rfl) e; rw [hdi] at this; cases this
                    have hx8 := hR.2.2.2 d8
                    dsimp only
                    rw [hx8]
                    go_simp
                    refine nextKR _ rfl rfl ⟨hR.1, hR.2.1, fun h => hR.2.2.1 (setD_false h), held_next hR.2.2.2 (by decide)⟩ ?_
                    exact ⟨fun _ _ h => h, fun _ _ h => h, fun _ _ h => until_mono h, fun _ _ h => until_mono h, fun h => absurd rfl h, fun _ _ h => h, fun _ _ h => h, fun _ _ h => h, fun _ _ h => h, trivial⟩
                  · intro _ d x wy hR hdi hcl hsrc hd
                    refine ⟨fun _ => ?_, fun hX => by simp at hX⟩
                    have d3 : d 3 = true := SrcX.reach (K := 7) hcl hsrc rfl 20 3 (by decide) (by kernel_rfl)
                    have d6 : d 6 = true := SrcX.reach (K := 7) hcl hsrc rfl 20 6 (by decide) (by kernel_rfl)
                    simp only [DoneX] at hd
                    have h6 : x 6 = .slice A7 0 (cO - k) := hd.2.2.2.2.2.2.1 d6
                    have ho : OBM 4 wx8.heap.size wx8 (x 3) (k + 1) (flatR (out.take k ++ [r])) wy := hd.2.2.2.1 d3 hdi
                    have h3r := HR7.out wy hR.1
                    dsimp only
                    rw [h6]
                    refine oper_append_obk _ _ _ _ rfl 41 i0 _ 40 (by kernel_rfl) hi hz0 hz1 hz2 rfl ho rfl rfl
                      (h3r.sl.srcM (P := Tryd.prog) (e' := 41) (by kernel_rfl) h3r.none_ (flatR_one _)) h3r.sl.1 (by unfold maxLen; first | omega | (dsimp only; omega)) (by first | omega | (dsimp only; omega)) ?_
                    intro v' w' q1 q2 q3 q4 q5
                    have q1' : OBM 4 wx8.heap.size wx8 v' (k + 1) (flatR (out.take k ++ r :: out.drop k)) w' := by
                      have e1 : flatR (out.take k ++ [r]) ++ flatR (out.drop k) = flatR (out.take k ++ r :: out.drop k) := by rw [← flatR_append]; simp
                      have e2 : k + 1 + 0 = k + 1 := by omega
                      rw [← e1, ← e2]; exact q1
                    refine nextKR v' rfl q1' ⟨q1.bel, q1.base, fun h => absurd (setD_false h) (by rw [d3]; simp), held_next hR.2.2.2 (by decide)⟩ ?_
                    refine ⟨fun _ _ h => h, fun _ _ h => h, fun _ _ _ => until_done d3, fun _ _ _ => until_self, fun _ _ h => h, fun _ _ h => h, fun _ _ h => h, fun h => absurd rfl h, fun _ h8 _ => ?_, trivial⟩
                    have := hcl.reach 20 7 8 (by kernel_rfl) h8
                    rw [hdi] at this; cases this
                · intro x wy d hall hR hx
                  obtain ⟨-, -, -, -, -, -, -, -, ho, -⟩ := hx
                  have ho : OBM 4 wx8.heap.size wx8 (x 8) (k + 1) (flatR (out.take k ++ r :: out.drop k)) wy := ho
                  obtain ⟨AF, cF, hF, -, -, -⟩ := ho.slice
                  have HF := Lib.hid (ho.out HBX.out.size HBX.out)
                  rw [hF] at HF ⊢
                  clear ho hF hR
                  go_wp2_with fail
                  go_round
                  case rel => exact ⟨kk + 1, by omega, by go_num, Lib.hid (by rw [HNX.out, HST.out, insR_split_len (k := k) (by have := HM.out; omega), HM.out]; exact HF.out)⟩
                  case measure => simp [intOf]; omega
    · have hlt' : ¬ (kk : Int) < n := by omega
      go_wp2_with fail
      go_ret
      have := HB.out
      rw [List.take_of_length_le (by rw [HL.out]; omega)] at this
      exact ⟨_, rfl, this⟩
end Go.Proofs.YtpbbnpglcadimaaDoor
namespace Go.Proofs.YtpbbnpglcadimaaDoor
open Go.RowKit
set_option linter.unusedVariables false
set_option linter.unusedSimpArgs false
theorem takeWhile_all {α : Type} {p : α → Bool} : ∀ {l : List α} {a : α}, a ∈ l.takeWhile p → p a = true
  | [], _, h => by simp at h
  | x :: l, a, h => by
    by_cases hx : p x = true
    · rw [List.takeWhile_cons_of_pos hx] at h
      rcases List.mem_cons.1 h with rfl | h
      · exact hx
      · exact takeWhile_all h
    · rw [List.takeWhile_cons_of_neg hx] at h; cases h
theorem insR_has (out : List RecT) (r : RecT) : r ∈ insR out r := by unfold insR; simp
theorem insR_keeps {out : List RecT} {r q : RecT} (h : q ∈ out) : q ∈ insR out r := by
  rw [← List.takeWhile_append_dropWhile (p := lowB r) (l := out)] at h
  unfold insR
  rcases List.mem_append.1 h with h | h
  · exact List.mem_append.2 (.inl h)
  · exact List.mem_append.2 (.inr (List.mem_cons_of_mem _ h))
theorem stepS_cases (out : List RecT) (r : RecT) : (stepS out r = out ∧ r ∈ out) ∨ stepS out r = insR out r := by
  unfold stepS
  split
  · rename_i q l h
    split
    · rename_i he
      left
      refine ⟨rfl, ?_⟩
      have := (eqB_iff q r).1 he
      rw [← this]
      exact (List.dropWhile_sublist (lowB r)).mem (by rw [h]; simp)
    · right; rfl
  · right; rfl
theorem stepS_new {out : List RecT} {r : RecT} (h : r ∉ out) : stepS out r = insR out r := by
  rcases stepS_cases out r with ⟨_, h'⟩ | h'
  · exact absurd h' h
  · exact h'
theorem stepS_has (out : List RecT) (r : RecT) : r ∈ stepS out r := by
  rcases stepS_cases out r with ⟨h, h'⟩ | h
  · rw [h]; exact h'
  · rw [h]; exact insR_has _ _
theorem stepS_keeps {out : List RecT} {r q : RecT} (h : q ∈ out) : q ∈ stepS out r := by
  rcases stepS_cases out r with ⟨h', _⟩ | h'
  · rw [h']; exact h
  · rw [h']; exact insR_keeps h
theorem foldl_keeps : ∀ (rs out : List RecT) (q : RecT), q ∈ out ∨ q ∈ rs → q ∈ rs.foldl stepS out
  | [], out, q, h => by
    rcases h with h | h
    · exact h
    · cases h
  | r :: rs, out, q, h => by
    refine foldl_keeps rs (stepS out r) q ?_
    rcases h with h | h
    · exact .inl (stepS_keeps h)
    · rcases List.mem_cons.1 h with h | h
      · exact .inl (by rw [h]; exact stepS_has _ _)
      · exact .inr h
theorem sortedR_has {rs : List RecT} {q : RecT} (h : q ∈ rs) : q ∈ sortedR rs := foldl_keeps rs [] q (.inr h)
/-- In order, each once. -/
def Rising (l : List RecT) : Prop := l.Pairwise fun a b => cmpR a b < 0
theorem insR_rising {out : List RecT} {r : RecT} (h : Rising out) (hr : r ∉ out) : Rising (insR out r) := by
  unfold Rising at h ⊢
  rw [← List.takeWhile_append_dropWhile (p := lowB r) (l := out), List.pairwise_append] at h
  obtain ⟨h1, h2, h3⟩ := h
  have hlow : ∀ a ∈ out.takeWhile (lowB r), cmpR a r < 0 := by
    intro a ha
    have := takeWhile_all ha
    unfold lowB at this
    simpa using this
  have hhigh : ∀ b ∈ out.dropWhile (lowB r), cmpR r b < 0 := by
    intro b hb
    have hsub : b ∈ out := (List.dropWhile_sublist (lowB r)).mem hb
    have hne : cmpR r b ≠ 0 := by
      intro e
      have := (cmpR_is.zero _ _).1 e
      rw [this] at hr
      exact hr hsub
    -- the first of them is not lower than r
    cases hd : out.dropWhile (lowB r) with
    | nil => rw [hd] at hb; cases hb
    | cons q l =>
      have hq : lowB r q = false := by
        have := List.head?_dropWhile_not (lowB r) out
        rw [hd] at this
        simpa using this
      have hq0 : cmpR q r ≥ 0 := by unfold lowB at hq; simp at hq; omega
      have hrq : cmpR r q ≤ 0 := by have := cmpR_is.swap q r; omega
      rw [hd] at hb h2
      rcases List.mem_cons.1 hb with rfl | hb
      · omega
      · have hqb := (List.pairwise_cons.1 h2).1 b hb
        exact cmpR_is.lt_of_le_lt hrq hqb
  unfold insR
  rw [List.pairwise_append]
  refine ⟨h1, List.pairwise_cons.2 ⟨hhigh, h2⟩, fun a ha b hb => ?_⟩
  rcases List.mem_cons.1 hb with rfl | hb
  · exact hlow a ha
  · exact h3 a ha b hb
theorem stepS_old {out : List RecT} {r : RecT} (h : Rising out) (hr : r ∈ out) : stepS out r = out := by
  rw [← List.takeWhile_append_dropWhile (p := lowB r) (l := out)] at hr
  have hr2 : r ∈ out.dropWhile (lowB r) := by
    rcases List.mem_append.1 hr with h' | h'
    · have := takeWhile_all h'
      unfold lowB at this
      rw [cmpR_is.refl] at this
      simp at this
    · exact h'
  unfold Rising at h
  rw [← List.takeWhile_append_dropWhile (p := lowB r) (l := out), List.pairwise_append] at h
  obtain ⟨-, h2, -⟩ := h
  unfold stepS
  cases hd : out.dropWhile (lowB r) with
  | nil => rw [hd] at hr2; cases hr2
  | cons q l =>
    have hq : lowB r q = false := by
      have := List.head?_dropWhile_not (lowB r) out
      rw [hd] at this
      simpa using this
    have hqr : q = r := by
      rw [hd] at hr2 h2
      rcases List.mem_cons.1 hr2 with h' | h'
      · exact h'.symm
      · have := (List.pairwise_cons.1 h2).1 r h'
        unfold lowB at hq
        simp at hq
        omega
    dsimp only
    rw [(eqB_iff q r).2 hqr]
    simp
theorem foldl_rising : ∀ (rs out : List RecT), Rising out → Rising (rs.foldl stepS out)
  | [], _, h => h
  | r :: rs, out, h => by
    refine foldl_rising rs (stepS out r) ?_
    by_cases hr : r ∈ out
    · rw [stepS_old h hr]; exact h
    · rw [stepS_new hr]; exact insR_rising h hr
theorem sortedR_rising (rs : List RecT) : Rising (sortedR rs) := foldl_rising rs [] List.Pairwise.nil
/-- Records but one. -/
def lessR (z : List RecT) (s : RecT) : List RecT := z.filter fun x => !eqB x s
theorem lessR_at {z : List RecT} {s : RecT} {k : Nat} (h : Rising z) (hk : z[k]? = some s) (hn : s ∉ z.take k) : z.take k ++ z.drop (k + 1) = lessR z s := by
  have hlt := (List.getElem?_eq_some_iff.1 hk).1
  have he : z[k] = s := by rw [List.getElem?_eq_getElem hlt] at hk; injection hk
  have hz : z = z.take k ++ s :: z.drop (k + 1) := by
    conv => lhs; rw [← List.take_append_drop k z, List.drop_eq_getElem_cons hlt, he]
  have hs2 : s ∉ z.drop (k + 1) := by
    unfold Rising at h
    rw [hz, List.pairwise_append] at h
    intro hm
    have h3 := (List.pairwise_cons.1 h.2.1).1 s
    have := h3 hm
    rw [cmpR_is.refl] at this
    omega
  have f1 : ∀ l : List RecT, s ∉ l → l.filter (fun x => !eqB x s) = l := by
    intro l hl
    rw [List.filter_eq_self]
    intro x hx
    cases e : eqB x s with
    | false => rfl
    | true => rw [(eqB_iff x s).1 e] at hx; exact absurd hx hl
  unfold lessR
  conv => rhs; rw [hz]
  rw [List.filter_append, List.filter_cons, (eqB_iff s s).2 rfl, f1 _ hn, f1 _ hs2]
  simp
theorem lessR_none {z : List RecT} {s : RecT} (h : s ∉ z) : lessR z s = z := by
  unfold lessR
  rw [List.filter_eq_self]
  intro x hx
  cases e : eqB x s with
  | false => rfl
  | true => rw [(eqB_iff x s).1 e] at hx; exact absurd hx h
theorem lessR_next {z : List RecT} {s : RecT} {k : Nat} {r : RecT} (h : z[k]? = some r) : lessR (z.take (k + 1)) s = lessR (z.take k) s ++ (if eqB r s then [] else [r]) := by
  unfold lessR
  rw [List.take_add_one, h, List.filter_append]
  cases e : eqB r s <;> simp [e]
end Go.Proofs.YtpbbnpglcadimaaDoor
namespace Go.Proofs.YtpbbnpglcadimaaDoor
open Go.RowKit
set_option linter.unusedVariables false
set_option linter.unusedSimpArgs false
set_option maxRecDepth 20000
attribute [local simp] putsF isV wordOf Deps Region.binds Region.wanted Act.put wantedX isB
/-- An error of this number. -/
def errV (k : Int) : Value := .iface 36 (.int .i64 k)
set_option maxHeartbeats 1600000 in
theorem insert_old (A : Option Addr) (n c : Nat) (rs : List RecT) (r : RecT) (w : World) (h : Recs w A rs) (hl : rs.length = n) (hn : n ≤ maxLen) (hr : r ∈ rs) :
    Calls Tryd.prog 54 #[.slice A n c, recV r] w fun e w' => e = .returned (.tuple #[.slice none 0 0, errV 7]) ∧ Below w.heap.size w w' := by
  have HAS := Lib.hid (fun w h => has_any A n c rs r w h hl hn)
  rw [(hasB_iff _ _).2 hr] at HAS
  have HH := Lib.hid h
  unfold recV errV at *
  clear h hl hn hr
  go_enter Tryd.func54, Tryd.ntmps54
  go_wp2_with fail
  refine (HAS.out _ (HH.out.below ((Below.refl _ _).alloc (Nat.le_refl _) _))).mono ?_
  rintro e w1 ⟨rfl, hb⟩
  have HB := Lib.hid (below_alloc _ (Below.refl _ _) (Nat.le_refl _) hb)
  clear hb
  go_wp2_with fail
  exact bodyPost_ret (v := .tuple #[.slice none 0 0, .iface 36 (.int .i64 7)]) (by simp [results, Tryd.results54, go_sem]) rfl ⟨rfl, HB.out⟩
/-- So many rows that are some records, one behind the other. -/
def joinN (m : Nat) (L : List RecT) : Value → World → Prop := fun v w => ∃ g, v = .slice (some ⟨g, 0, none⟩) m m ∧ ∃ rows : List RowR, Sl w w.heap.size 1 (some ⟨g, 0, none⟩) m (rows.map rowRV) ∧ (∀ r ∈ rows, RowROk w r) ∧ allR rows = L
theorem joinN_stays (m : Nat) (L : List RecT) : ∀ v w w', joinN m L v w → Goes w w' → joinN m L v w' := by
  rintro v w w' ⟨g, rfl, rows, hS, hok, hL⟩ hb
  exact ⟨g, rfl, rows, (hS.below hb).more hb.size, fun r hr => (hok r hr).below hb, hL⟩
set_option maxHeartbeats 3200000 in
theorem delete_none (A : Option Addr) (n c : Nat) (rs : List RecT) (r : RecT) (w : World) (h : Recs w A rs) (hl : rs.length = n) (hn : n ≤ maxLen) (hr : r ∉ rs) :
    Calls Tryd.prog 53 #[.slice A n c, recV r] w fun e w' => e = .returned (.tuple #[.slice none 0 0, errV 6]) ∧ Below w.heap.size w w' := by
  have IX := Lib.hid (fun w h => index_any A n c rs r w h hl hn)
  have HH := Lib.hid h
  unfold recV errV at *
  clear h hl hn
  go_enter Tryd.func53, Tryd.ntmps53
  go_wp2_with fail
  refine (IX.out _ (HH.out.below ((Below.refl _ _).alloc (Nat.le_refl _) _))).mono ?_
  rintro e w1 ⟨i, rfl, hi, hb⟩
  rcases hi with ⟨rfl, -⟩ | ⟨k, rfl, hk, -⟩
  · have HB := Lib.hid (below_alloc _ (Below.refl _ _) (Nat.le_refl _) hb)
    clear hb hr
    go_wp2_with fail
    exact bodyPost_ret (v := .tuple #[.slice none 0 0, .iface 36 (.int .i64 6)]) (by simp [results, Tryd.results53, go_sem]) rfl ⟨rfl, HB.out⟩
  · exact absurd (List.mem_of_getElem? hk) hr
set_option maxHeartbeats 3200000 in
theorem delete_some (A : Option Addr) (n c : Nat) (rs : List RecT) (r : RecT) (w : World) (h : RowROk w (A, n, c, rs)) (hnc : n ≤ c) (hn : n ≤ 100000) (hr : r ∈ rs) (hri : Rising rs) :
    Calls Tryd.prog 53 #[.slice A n c, recV r] w fun e w' => ∃ v, e = .returned (.tuple #[v, .nilIface]) ∧ OBM 4 w.heap.size w v (lessR rs r).length (flatR (lessR rs r)) w' := by
  have hl : rs.length = n := h.len
  obtain ⟨NL, hNL⟩ : ∃ NL, (lessR rs r).length = NL := ⟨_, rfl⟩
  rw [hNL]
  have HNL := Lib.hid hNL
  clear hNL
  have IX := Lib.hid (fun w h => index_any A n c rs r w h hl (by unfold maxLen; omega))
  have HH := Lib.hid h
  have HRI := Lib.hid hri
  have HRR := Lib.hid hr
  have HL := Lib.hid hl
  unfold recV at IX ⊢
  clear h hri hr hl
  go_enter Tryd.func53, Tryd.ntmps53
  go_wp2_with fail
  refine (IX.out _ ((HH.out.sl.recs (Nat.le_refl _) HL.out).below ((Below.refl _ _).alloc (Nat.le_refl _) _))).mono ?_
  rintro e w1 ⟨i, rfl, hi, hb⟩
  rcases hi with ⟨rfl, hno⟩ | ⟨k, rfl, hk, hkn⟩
  · exact absurd HRR.out hno
  · have hkl : k < n := by have := (List.getElem?_eq_some_iff.1 hk).1; have := HL.out; omega
    have hb' := below_alloc _ (Below.refl _ _) (Nat.le_refl _) hb
    have HB := Lib.hid hb'
    have HRX := Lib.hid (HH.out.below hb')
    have HI := Lib.hid (lessR_at HRI.out hk hkn)
    have hlen : (lessR rs r).length ≤ 100000 := by
      unfold lessR
      have := List.length_filter_le (fun x => !eqB x r) rs
      have := HL.out
      omega
    have HLE := Lib.hid hlen
    obtain ⟨b, off, he, -, -⟩ := HRX.out.sl.2 (by dsimp only; omega)
    dsimp only at he
    subst he
    obtain ⟨A7, hA7⟩ : ∃ A7 : Option Addr, (if c = k + 1 then some ⟨b, off, none⟩ else some ⟨b, off + (k + 1) * 4, none⟩) = A7 := ⟨_, rfl⟩
    have HR7 : Hid (∀ wy, Below w1.heap.size w1 wy → RowROk wy (A7, n - (k + 1), c - (k + 1), rs.drop (k + 1))) := Lib.hid (fun wy hb => by
      rw [← hA7]
      by_cases hck : c = k + 1
      · rw [if_pos hck, List.drop_eq_nil_of_le (by have := HL.out; omega), show n - (k + 1) = 0 by omega]
        exact RowROk.nothing _ _ _
      · rw [if_neg hck]
        exact (HRX.out.below hb).drop (k + 1) (by omega) _)
    have hkc : k ≤ c := by omega
    have hkci : (k : Int) ≤ c := by omega
    have hk1c : k + 1 ≤ c := by omega
    have hk1ci : (k : Int) + 1 ≤ c := by omega
    have hk1n : (k : Int) + 1 ≤ n := by omega
    have hnci : (n : Int) ≤ c := by omega
    have hkneg : ¬ (k : Int) < 0 := by omega
    have htn : ((k : Int) + 1).toNat = k + 1 := by omega
    have hk0 : (0 : Int) ≤ (k : Int) + 1 := by omega
    clear hb hb' hk hkn hlen
    go_upto_region 4 with fail
    refine wp_region_goesG data_follows (fun x => by simp [putsF, Act.put]; rfl) w1.heap.size w1
      [isV (.slice (some ⟨b, off, none⟩) n c), isV (.int .i64 (k : Nat)), isV (.slice (some ⟨b, off, none⟩) k c), isV (.slice (some ⟨b, off, none⟩) n c), isV (.int .i64 (k : Nat)), isV (.int .i64 ((k : Int) + 1)), isV (.slice A7 (n - (k + 1)) (c - (k + 1))), joinN 2 (lessR rs r), ownW 4 w1.heap.size w1 NL (flatR (lessR rs r)), ownW 4 w1.heap.size w1 NL (flatR (lessR rs r)), isV .nilIface]
      (by kernel_rfl) (by kernel_rfl) (by kernel_rfl) rfl ?_ (Below.refl _ _) ?_ ?_
    · repeat (first | exact trivial | refine ⟨by first | exact isV_stays _ | exact joinN_stays _ _ | exact ownW_stays _ _ _ _ _, ?_⟩)
    · refine ⟨?_, ?_, ?_, ?_, ?_, ?_, ?_, ?_, ?_, ?_, ?_, trivial⟩
      all_goals
        intro y wy hR hd
        refine ⟨fun _ => ?_, fun hX => by simp at hX⟩
        simp at hd ⊢
      · go_simp; exact next_same _ rfl rfl hR
      · go_simp; exact next_same _ rfl rfl hR
      · obtain ⟨hd0, hd1⟩ := hd; go_simp; exact next_same _ rfl rfl hR
      · go_simp; exact next_same _ rfl rfl hR
      · go_simp; exact next_same _ rfl rfl hR
      · have hwr : IntKind.i64.wrap ((k : Int) + 1) = (k : Int) + 1 := by rw [IntKind.wrap_i64]; omega
        go_simp; exact next_same _ rfl rfl hR
      · obtain ⟨hd0, hd1⟩ := hd; go_simp; exact next_same _ rfl rfl hR
      · obtain ⟨hd0, hd1⟩ := hd
        go_simp
        refine next_alloc _ _ rfl ⟨_, rfl, [(some ⟨b, off, none⟩, k, c, rs.take k), (A7, n - (k + 1), c - (k + 1), rs.drop (k + 1))], Sl.fresh _ _ _ 2 _ rfl rfl, ?_, ?_⟩ hR hR.size
        · intro p hp
          simp at hp
          have hb' : Below wy.heap.size wy (wy.alloc (.cells #[.slice (some ⟨b, off, none⟩) k c, .slice A7 (n - (k + 1)) (c - (k + 1))] 49)) := (Below.refl _ _).alloc (Nat.le_refl _) _
          rcases hp with rfl | rfl
          · exact (((HRX.out.below hR).take k (by omega) c).below hb')
          · exact (HR7.out _ hR).below hb'
        · show rs.take k ++ (rs.drop (k + 1) ++ []) = lessR rs r
          rw [← HI.out]; simp
      · obtain ⟨g8, hx8, rows, hS, hok, hall⟩ := hd
        rw [hx8]
        go_simp
        go_at_call 71
        refine (concat_any _ 2 2 rows wy hS (by decide) hok (by rw [hall]; have := HLE.out; omega)).mono ?_
        rintro e w2 ⟨v, rfl, ho⟩
        rw [hall, HNL.out] at ho
        exact next_call _ rfl (ho.out hR.size hR) hR hR.size ho.bel
      · have hd9 : ownW 4 w1.heap.size w1 NL (flatR (lessR rs r)) (y 8) wy := by first | exact hd | exact hd.1
        go_simp; exact next_same _ rfl hd9 hR
      · go_simp; exact next_same _ rfl rfl hR
    · intro y wy hR hy
      obtain ⟨-, -, -, -, -, -, -, -, -, ho, h11, -⟩ := hy
      have h11 : y 10 = .nilIface := h11
      unfold ownW at ho
      obtain ⟨AF, cF, hF, -, -, -⟩ := ho.slice
      have HF := Lib.hid (ho.out HB.out.size HB.out)
      rw [hF] at HF
      rw [hF, h11]
      clear ho hF h11 hR
      go_wp2_with fail
      refine bodyPost_ret (v := .tuple #[.slice AF NL cF, .nilIface]) (by simp [results, Tryd.results53, go_sem]) rfl ⟨_, rfl, HF.out⟩
end Go.Proofs.YtpbbnpglcadimaaDoor
namespace Go.Proofs.YtpbbnpglcadimaaDoor
open Go.RowKit
set_option linter.unusedVariables false
set_option linter.unusedSimpArgs false
set_option maxRecDepth 20000
set_option maxHeartbeats 1600000 in
theorem growR_any (n : Nat) (w : World) (hn : n ≤ 1000000) :
    Calls Tryd.prog 69 #[.slice none 0 0, .int .i64 (n : Nat)] w fun e w' => ∃ v, e = .returned v ∧ OBM 4 w.heap.size w v 0 [] w' := by
  obtain ⟨i0, hi, hz0, hz1, hz2⟩ := info_parts4 rec_info
  rcases Nat.eq_zero_or_pos n with rfl | hp
  · go_enter Tryd.func69, Tryd.ntmps69
    go_wp2_with fail
    go_ret
    exact ⟨_, rfl, OBM.start w⟩
  · have hpi : (0 : Int) < n := by omega
    have hni : ¬ (n : Int) < 0 := by omega
    have hbig : n * i0.bytes ≤ 281474976710656 := by rw [hz2]; omega
    have hr := Lib.hid (Lib.run_append_nil_zeros (P := Tryd.prog) w 27 3 27 41 i0 _ .i64 .i64 (by kernel_rfl) Tryd.underlying3 hi hz0 n hp (by rw [hz1]; decide) (by omega) hbig)
    have hge := grownCap_ge w n 0 41
    have hcm := grownCap_le_maxLen w n 0 41 (by unfold maxLen; omega)
    obtain ⟨K, hK⟩ : ∃ K, grownCap w n 0 41 = K := ⟨_, rfl⟩
    rw [hK] at hr hge hcm
    obtain ⟨cs, hcs⟩ : ∃ cs, Builtin.zeroCells (Value.agg #[.string ⟨#[]⟩, .int .u16 0, .int .u32 0, .string ⟨#[]⟩]).cells n ++ Builtin.zeroCells (Value.agg #[.string ⟨#[]⟩, .int .u16 0, .int .u32 0, .string ⟨#[]⟩]).cells (K - n) = cs := ⟨_, rfl⟩
    have hsz : cs.size = K * 4 := by
      rw [← hcs, Array.size_append, size_zeroCells, size_zeroCells, rec_zero_cells]
      omega
    rw [hcs] at hr
    have HS := Lib.hid (OBM.zeros (sz := 4) w cs 41 K hsz hcm)
    clear hK hcs hsz hz0 hz1 hz2 hbig
    go_enter Tryd.func69, Tryd.ntmps69
    go_wp2_with (at_builtin; go_loud (refine Lib.wpList_append_run _ rfl _ _ 27 3 rfl _ _ rfl rfl _ _ hr.out ?_))
    go_ret
    exact ⟨_, rfl, HS.out⟩
set_option maxHeartbeats 1600000 in
theorem concatR_any (A : Option Addr) (n c : Nat) (rows : List RowR) (w : World) (h : Sl w w.heap.size 1 A n (rows.map rowRV)) (hn : n ≤ 1000000) (hok : ∀ r ∈ rows, RowROk w r) (hs : (allR rows).length ≤ 1000000) :
    Calls Tryd.prog 52 #[.slice A n c] w fun e w' => ∃ v, e = .returned v ∧ OBM 4 w.heap.size w v (allR rows).length (flatR (allR rows)) w' := by
  have hl : rows.length = n := by simpa using h.1
  obtain ⟨i0, hi, hz0, hz1, hz2⟩ := info_parts4 rec_info
  have H := Lib.hid h
  have HL := Lib.hid hl
  have HK := Lib.hid hok
  have HS := Lib.hid hs
  clear h hl hok hs
  go_enter Tryd.func52, Tryd.ntmps52
  go_wp2_with fail
  go_loop [3, 11] (fun s i => ∃ k m : Nat, k ≤ n ∧ i = .int .i64 k ∧ s = .int .i64 m ∧ Hid (m = (allR (rows.take k)).length) ∧ m ≤ 1000000) (fun _ i => n - (intOf i).toNat)
  case atStart => exact ⟨0, 0, Nat.zero_le _, rfl, rfl, Lib.hid (by simp [allR]), by omega⟩
  case round =>
    obtain ⟨k, m, hk, rfl, rfl, HM, hm⟩ := hrel
    by_cases hlt : k < n
    · have hlt' : (k : Int) < n := by omega
      obtain ⟨b, off, u, rfl, hb, hu, hc⟩ := H.out.at_ hlt
      obtain ⟨r, hr⟩ : ∃ x, rows[k]? = some x := ⟨_, List.getElem?_eq_getElem (by rw [HL.out]; exact hlt)⟩
      rw [List.getElem?_map, hr] at hu
      simp only [Option.map_some, Option.some.injEq] at hu
      subst hu
      unfold rowRV at hc
      have hlen := (HK.out r (List.mem_of_getElem? hr)).len
      obtain ⟨M, hM⟩ : ∃ M : Nat, M = m + r.2.1 := ⟨_, rfl⟩
      have HM2 : Hid (M = (allR (rows.take (k + 1))).length) := Lib.hid (by rw [allR_snoc hr, List.length_append, hM, HM.out, hlen])
      have hM6 : M ≤ 1000000 := by have := allR_le rows (k + 1); have := HS.out; have := HM2.out; omega
      have hsum : (m : Int) + (r.2.1 : Int) = (M : Int) := by omega
      have hMn : ¬ (M : Int) < 0 := by omega
      clear hr hlen hM
      go_wp2_with fail
      go_round
      case rel => exact ⟨k + 1, M, by omega, by go_num, rfl, HM2, hM6⟩
      case measure => simp [intOf]; omega
    · have hlt' : ¬ (k : Int) < n := by omega
      go_wp2_with fail
      refine (growR_any m w hm).mono ?_
      rintro e w1 ⟨v0, rfl, ho0⟩
      have HO0 := Lib.hid ho0
      clear ho0
      go_wp2_with fail
      go_loopw [6, 27] (fun v i wr => ∃ k : Nat, k ≤ n ∧ i = .int .i64 k ∧ Hid (OBM 4 w.heap.size w v (allR (rows.take k)).length (flatR (allR (rows.take k))) wr)) (fun _ i _ => n - (intOf i).toNat)
      case atStart => exact ⟨0, Nat.zero_le _, rfl, Lib.hid (by simpa [allR, flatR] using HO0.out)⟩
      case round =>
        obtain ⟨k, hk, rfl, HB⟩ := hrel
        by_cases hlt : k < n
        · have hlt' : (k : Int) < n := by omega
          obtain ⟨b, off, u, rfl, hb, hu, hc⟩ := ((H.out.below HB.out.bel).more HB.out.bel.size).at_ hlt
          obtain ⟨r, hr⟩ : ∃ x, rows[k]? = some x := ⟨_, List.getElem?_eq_getElem (by rw [HL.out]; exact hlt)⟩
          rw [List.getElem?_map, hr] at hu
          simp only [Option.map_some, Option.some.injEq] at hu
          subst hu
          unfold rowRV at hc
          have hR := (HK.out r (List.mem_of_getElem? hr)).below HB.out.bel
          have hS := Lib.hid (hR.sl.srcM (P := Tryd.prog) (c := r.2.2.1) (tx := 27) (e' := 41) (by kernel_rfl) hR.none_ (flatR_one _))
          have HAS := Lib.hid (allR_snoc hr)
          have hlen := hR.len
          have hle := allR_le rows (k + 1)
          have hs := HS.out
          have HB3 : Hid ((allR (rows.take k)).length + r.2.1 ≤ 1000000) := Lib.hid (by rw [HAS.out, List.length_append, hlen] at hle; omega)
          have HLEN := Lib.hid hR.sl.1
          have HLN := Lib.hid hlen
          clear hr hR hlen hle hs
          go_wp2_with (at_builtin; go_loud (refine wpList_append_obm rfl _ _ 27 27 rfl 41 i0 _ 40 (by kernel_rfl) hi hz0 hz1 hz2 rfl HB.out rfl rfl hS.out HLEN.out (by have := HB3.out; unfold maxLen; omega) (by have := HB3.out; omega) ?_))
          intro v' w' q1 q2 q3 q4
          clear q2 q3 q4
          have Q1 := Lib.hid q1
          clear q1
          go_wp2_with fail
          go_round
          case rel => exact ⟨k + 1, by omega, by go_num, Lib.hid (by rw [HAS.out, flatR_append, List.length_append, HLN.out]; exact Q1.out)⟩
          case measure => simp [intOf]; omega
        · have hlt' : ¬ (k : Int) < n := by omega
          go_wp2_with fail
          go_ret
          have := HB.out
          rw [List.take_of_length_le (by rw [HL.out]; omega)] at this
          exact ⟨_, rfl, this⟩
set_option maxHeartbeats 1600000 in
def zeroR : RecT := (⟨#[]⟩, 0, 0, ⟨#[]⟩)
def isSoaR (r : RecT) : Bool := r.2.1 == 6
def firstS (rs : List RecT) : Option RecT := rs.find? isSoaR
theorem firstS_next {rs : List RecT} {k : Nat} {r : RecT} (h : rs[k]? = some r) : firstS (rs.take (k + 1)) = (firstS (rs.take k)).or (if isSoaR r then some r else none) := by
  unfold firstS
  rw [List.take_add_one, h, List.find?_append]
  congr 1
  simp only [Option.toList_some, List.find?_cons, List.find?_nil]
  cases isSoaR r <;> rfl
theorem firstS_at {rs : List RecT} {k : Nat} {r : RecT} (h0 : firstS (rs.take k) = none) (h : rs[k]? = some r) (hs : isSoaR r = true) : firstS rs = some r := by
  have h1 := firstS_next h
  rw [h0, hs] at h1
  have e : firstS (rs.take (k + 1)) = some r := by rw [h1]; rfl
  have : rs = rs.take (k + 1) ++ rs.drop (k + 1) := (List.take_append_drop _ _).symm
  rw [this]
  unfold firstS at e ⊢
  rw [List.find?_append, e]; rfl
set_option maxHeartbeats 1600000 in
theorem soaz_any (A : Option Addr) (n c : Nat) (rs : List RecT) (w : World) (h : Recs w A rs) (hl : rs.length = n) (hn : n ≤ maxLen) :
    Calls Tryd.prog 51 #[.slice A n c] w fun e w' => e = .returned (.tuple #[recV ((firstS rs).getD zeroR), .bool (firstS rs).isSome]) ∧ Below w.heap.size w w' := by
  unfold maxLen at hn
  obtain ⟨W, hW⟩ : ∃ W, W = w.alloc (.cells #[.string ⟨#[]⟩, .int .u16 0, .int .u32 0, .string ⟨#[]⟩] 41) := ⟨_, rfl⟩
  have hD : Cs W w.heap.size [.string ⟨#[]⟩, .int .u16 0, .int .u32 0, .string ⟨#[]⟩] := by rw [hW]; exact Cs.new w _ _ _
  have hbW : Below w.heap.size w W := by rw [hW]; exact (Below.refl _ _).alloc (Nat.le_refl _) _
  obtain ⟨g, hg⟩ : ∃ g, g = w.heap.size := ⟨_, rfl⟩
  rw [← hg] at hD
  obtain ⟨S, hSS⟩ : ∃ S, firstS rs = S := ⟨_, rfl⟩
  rw [hSS]
  have HSS := Lib.hid hSS
  clear hSS
  have HL := Lib.hid hl
  have HW := Lib.hid hW
  have HD := Lib.hid hD
  have HBW := Lib.hid hbW
  have HG := Lib.hid hg
  have HR := Lib.hid (h.below hbW)
  have hgw : w.heap.size ≤ g := by omega
  clear h hW hD hbW hg hl
  go_enter Tryd.func51, Tryd.ntmps51
  go_wp2_with fail
  rw [← HW.out, ← HG.out]
  go_loopw [8] (fun i wr => ∃ k : Nat, k ≤ n ∧ i = .int .i64 k ∧ Hid (firstS (rs.take k) = none) ∧ Hid (Below W.heap.size W wr)) (fun i _ => n - (intOf i).toNat)
  case atStart => exact ⟨0, Nat.zero_le _, rfl, Lib.hid (by simp [firstS]), Lib.hid (Below.refl _ _)⟩
  case round =>
    obtain ⟨k, hk, rfl, HK, HB⟩ := hrel
    have hDr := HD.out.below HB.out
    have d0 := hDr.get 0 _
    have d1 := hDr.get 1 _
    have d2 := hDr.get 2 _
    have d3 := hDr.get 3 _
    have f0 := hDr.froz 0
    have f1 := hDr.froz 1
    have f2 := hDr.froz 2
    have f3 := hDr.froz 3
    have hgl := hDr.lt
    have HBw := Lib.hid (below_trans HBW.out HBW.out.size HB.out)
    clear hDr
    by_cases hlt : k < n
    · have hlt' : (k : Int) < n := by omega
      obtain ⟨r, hr⟩ : ∃ q, rs[k]? = some q := ⟨_, List.getElem?_eq_getElem (by rw [HL.out]; exact hlt)⟩
      obtain ⟨b, off, rfl, hb, z0, z1, z2, z3⟩ := (HR.out.below HB.out) k _ hr
      have HQ := Lib.hid hr
      clear hr
      cases e6 : (r.2.1 == 6) with
      | true =>
        have HS := Lib.hid (firstS_at HK.out HQ.out e6)
        obtain rfl : S = some r := HSS.out.symm.trans HS.out
        go_wp2_with fail
        refine bodyPost_ret (v := .tuple #[.agg #[.string r.1, .int .u16 r.2.1, .int .u32 r.2.2.1, .string r.2.2.2], .bool true]) (by simp [results, Tryd.results51, go_sem, d0, d1, d2, d3, hgl]) rfl ⟨rfl, ?_⟩
        refine Below.alloc ?_ (by simpa using HBw.out.size) _
        iterate 4 (refine Below.setCell ?_ hgw _)
        exact HBw.out
      | false =>
        have HN : Hid (firstS (rs.take (k + 1)) = none) := Lib.hid (by rw [firstS_next HQ.out, HK.out]; unfold isSoaR; rw [e6]; rfl)
        clear d0 d1 d2 d3 f0 f1 f2 f3
        go_wp2_with fail
        go_round
        case rel => exact ⟨k + 1, by omega, by go_num, HN, Lib.hid (HB.out.alloc HB.out.size _)⟩
        case measure => simp [intOf]; omega
    · have hlt' : ¬ (k : Int) < n := by omega
      have HN : Hid (firstS rs = none) := Lib.hid (by have := HK.out; rwa [List.take_of_length_le (by rw [HL.out]; omega)] at this)
      obtain rfl : S = none := HSS.out.symm.trans HN.out
      go_wp2_with fail
      refine bodyPost_ret (v := .tuple #[.agg #[.string ⟨#[]⟩, .int .u16 0, .int .u32 0, .string ⟨#[]⟩], .bool false]) (by simp [results, Tryd.results51, go_sem, d0, d1, d2, d3]) rfl ⟨rfl, ?_⟩
      first
      | exact HBw.out
      | (iterate 4 (refine Below.setCell ?_ hgw _)
         exact HBw.out)
end Go.Proofs.YtpbbnpglcadimaaDoor
namespace Go.Proofs.YtpbbnpglcadimaaDoor
open Go.RowKit
set_option linter.unusedVariables false
set_option linter.unusedSimpArgs false
set_option maxRecDepth 20000
/-- The records of one zone that another one does not have. -/
def woR (a b : List RecT) : List RecT := a.filter fun r => !hasB b r
theorem woR_next {a b : List RecT} {k : Nat} {r : RecT} (h : a[k]? = some r) : woR (a.take (k + 1)) b = woR (a.take k) b ++ if hasB b r then [] else [r] := by
  unfold woR; rw [List.take_add_one, h, List.filter_append]
  congr 1
  simp only [Option.toList_some, List.filter_cons, List.filter_nil]
  cases hasB b r <;> rfl
theorem woR_le (a b : List RecT) : (woR a b).length ≤ a.length := List.length_filter_le _ _
theorem src_rec {w : World} {ts : TypeId} (hts : Tryd.prog.underlying ts = some (.slice 41)) (r : RecT) :
    Src Tryd.prog 4 ts (.slice (some ⟨w.heap.size, 0, none⟩) 1 1) 1 (recCells r) (w.alloc (.cells #[.string r.1, .int .u16 r.2.1, .int .u32 r.2.2.1, .string r.2.2.2] 41)) :=
  Src.ofSlice _ hts _ 1 1 _ rfl (news_at w #[.string r.1, .int .u16 r.2.1, .int .u32 r.2.2.1, .string r.2.2.2] _) (recCells_one r)
set_option maxHeartbeats 1600000 in
theorem without_any (A A2 : Option Addr) (n c n2 c2 : Nat) (a b : List RecT) (w : World) (h : Recs w A a) (hl : a.length = n) (hn : n ≤ 100000) (h2 : Recs w A2 b) (hl2 : b.length = n2) (hn2 : n2 ≤ 100000) :
    Calls Tryd.prog 31 #[.slice A n c, .slice A2 n2 c2] w fun e w' => ∃ v, e = .returned v ∧ OBM 4 w.heap.size w v (woR a b).length (flatR (woR a b)) w' := by
  obtain ⟨i0, hi, hz0, hz1, hz2⟩ := info_parts4 rec_info
  have HR := Lib.hid h
  have HL := Lib.hid hl
  have HAS := Lib.hid (fun r wx hb => has_any A2 n2 c2 b r wx (h2.below hb) hl2 (by unfold maxLen; omega))
  clear h hl h2 hl2
  go_enter Tryd.func31, Tryd.ntmps31
  go_wp2_with fail
  go_loopw [5, 10] (fun v i wr => ∃ k : Nat, k ≤ n ∧ i = .int .i64 k ∧ Hid (OBM 4 w.heap.size w v (woR (a.take k) b).length (flatR (woR (a.take k) b)) wr)) (fun _ i _ => n - (intOf i).toNat)
  case atStart => exact ⟨0, Nat.zero_le _, rfl, Lib.hid (by simpa [woR, flatR] using OBM.start w)⟩
  case round =>
    obtain ⟨k, hk, rfl, HB⟩ := hrel
    by_cases hlt : k < n
    · have hlt' : (k : Int) < n := by omega
      have hk0 : ¬ (k : Int) < 0 := by omega
      obtain ⟨r, hr⟩ : ∃ q, a[k]? = some q := ⟨_, List.getElem?_eq_getElem (by rw [HL.out]; exact hlt)⟩
      obtain ⟨g, off, rfl, hg, z0, z1, z2, z3⟩ := (HR.out.below HB.out.bel) k _ hr
      have HNX := Lib.hid (woR_next (b := b) hr)
      have hle : (woR (a.take k) b).length ≤ 100000 := by have := woR_le (a.take k) b; simp at this; omega
      have HAS2 := HAS.out r
      obtain ⟨q, hq⟩ : ∃ q, hasB b r = q := ⟨_, rfl⟩
      rw [hq] at HAS2 HNX
      have HAS3 := Lib.hid HAS2
      obtain ⟨wa, hwa⟩ : ∃ wa, wa = wr.alloc (.cells #[.string r.1, .int .u16 r.2.1, .int .u32 r.2.2.1, .string r.2.2.2] 41) := ⟨_, rfl⟩
      have HBA := Lib.hid (HB.out.alloc (.cells #[.string r.1, .int .u16 r.2.1, .int .u32 r.2.2.1, .string r.2.2.2] 41))
      have HCA : Hid (Cs wa wr.heap.size (recCells r)) := Lib.hid (by rw [hwa]; exact Cs.new wr _ _ _)
      rw [← hwa] at HBA
      have HWA := Lib.hid hwa
      obtain ⟨B, hB⟩ : ∃ B, B = wr.heap.size := ⟨_, rfl⟩
      rw [← hB] at HCA
      have HBB := Lib.hid hB
      unfold recV at HAS3
      clear hr hq hwa hB HAS2
      go_wp2_with fail
      rw [← HWA.out, ← HBB.out]
      refine (HAS3.out wa HBA.out.bel).mono ?_
      rintro e w2 ⟨rfl, hb2⟩
      have HB2 := Lib.hid (HBA.out.keep hb2 (Nat.le_refl _))
      have c0 := (HCA.out.below hb2).get 0 _
      have c1 := (HCA.out.below hb2).get 1 _
      have c2 := (HCA.out.below hb2).get 2 _
      have c3 := (HCA.out.below hb2).get 3 _
      have g2 := (HCA.out.below hb2).lt
      clear hb2 HAS3 z0 z1 z2 z3
      cases q with
      | true =>
        go_wp2_with fail
        go_roundw
        case rel => exact ⟨k + 1, by omega, by go_num, Lib.hid (by rw [HNX.out]; simpa using HB2.out)⟩
        case measure => simp [intOf]; omega
      | false =>
        have HBX := Lib.hid (HB2.out.alloc (.cells #[.string r.1, .int .u16 r.2.1, .int .u32 r.2.2.1, .string r.2.2.2] 41))
        have hs := Lib.hid (src_rec (w := w2) (ts := 27) Tryd.underlying27 r)
        go_wp2_with (at_builtin; go_loud (refine wpList_append_obm rfl _ _ 27 27 rfl 41 i0 _ 40 Tryd.underlying27 hi hz0 hz1 hz2 rfl HBX.out rfl rfl hs.out rfl (by unfold maxLen; omega) (by omega) ?_))
        intro v' w' q1 q2 q3 q4
        have Q1 := Lib.hid q1
        clear q1 q2 q3 q4
        go_wp2_with fail
        go_roundw
        case rel => exact ⟨k + 1, by omega, by go_num, Lib.hid (by rw [HNX.out, List.length_append, flatR_append]; simpa [flatR] using Q1.out)⟩
        case measure => simp [intOf]; omega
    · have hlt' : ¬ (k : Int) < n := by omega
      go_wp2_with fail
      go_ret
      have := HB.out
      rw [List.take_of_length_le (by rw [HL.out]; omega)] at this
      exact ⟨_, rfl, this⟩
set_option maxHeartbeats 1600000 in
theorem between_any (A A2 : Option Addr) (n c n2 c2 : Nat) (a b : List RecT) (w : World) (h : Recs w A a) (hl : a.length = n) (hn : n ≤ 100000) (h2 : Recs w A2 b) (hl2 : b.length = n2) (hn2 : n2 ≤ 100000) :
    Calls Tryd.prog 15 #[.slice A n c, .slice A2 n2 c2] w fun e w' => ∃ v u, e = .returned (.tuple #[v, u]) ∧ OBM 4 w.heap.size w v (woR a b).length (flatR (woR a b)) w' ∧ OBM 4 w.heap.size w u (woR b a).length (flatR (woR b a)) w' ∧ (∀ q, v.ownBlock = some q → u.ownBlock ≠ some q) := by
  have W1 := Lib.hid (without_any A A2 n c n2 c2 a b w h hl hn h2 hl2 hn2)
  have W2 := Lib.hid (fun wx hb => without_any A2 A n2 c2 n c b a wx (h2.below hb) hl2 hn2 (h.below hb) hl hn)
  clear h hl h2 hl2
  go_enter Tryd.func15, Tryd.ntmps15
  go_wp2_with fail
  refine W1.out.mono ?_
  rintro e w1 ⟨v, rfl, ho⟩
  have HO := Lib.hid ho
  clear ho
  go_wp2_with fail
  refine (W2.out w1 HO.out.bel).mono ?_
  rintro e w2 ⟨u, rfl, ho2⟩
  have HO2 := Lib.hid ho2
  clear ho2
  go_wp2_with fail
  refine bodyPost_ret (v := .tuple #[v, u]) (by simp [results, Tryd.results15, go_sem]) rfl ?_
  refine ⟨v, u, rfl, HO.out.keep HO2.out.bel (Nat.le_refl _), HO2.out.out HO.out.base HO.out.bel, fun q h1 h2 => ?_⟩
  have := (HO.out.lt q h1).2
  have := (HO2.out.lt q h2).1
  omega
end Go.Proofs.YtpbbnpglcadimaaDoor
