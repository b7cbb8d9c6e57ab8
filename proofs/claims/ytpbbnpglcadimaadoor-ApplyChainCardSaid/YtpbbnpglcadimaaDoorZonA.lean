/- The contracts of layer 8: how records are compared. -/
import Derived.Test.YtpbbnpglcadimaaDoorRecC
import Derived.Test.YtpbbnpglcadimaaDoorOrd
import Derived.Test.YtpbbnpglcadimaaDoorObw
import Derived.Outline
namespace Go.Proofs.YtpbbnpglcadimaaDoor
open Go.RowKit
set_option linter.unusedVariables false
set_option linter.unusedSimpArgs false
set_option maxRecDepth 20000
theorem nan_str (s : ByteArray) (w : World) : Calls Tryd.prog 90 #[.string s] w fun e w' => e = .returned (.bool false) ∧ w = w' := by
  go_enter Tryd.func90, Tryd.ntmps90
  go_wp2_with fail
  go_ret
  exact ⟨rfl, rfl⟩
theorem nan_name (s : ByteArray) (w : World) : Calls Tryd.prog 88 #[.string s] w fun e w' => e = .returned (.bool false) ∧ w = w' := by
  go_enter Tryd.func88, Tryd.ntmps88
  go_wp2_with fail
  go_ret
  exact ⟨rfl, rfl⟩
theorem nan_u32 (a : Int) (w : World) : Calls Tryd.prog 91 #[.int .u32 a] w fun e w' => e = .returned (.bool false) ∧ w = w' := by
  have hq : (a != a) = false := by simp
  go_enter Tryd.func91, Tryd.ntmps91
  go_wp2_with fail
  go_ret
  exact ⟨rfl, rfl⟩
theorem nan_type (a : Int) (w : World) : Calls Tryd.prog 89 #[.int .u16 a] w fun e w' => e = .returned (.bool false) ∧ w = w' := by
  have hq : (a != a) = false := by simp
  go_enter Tryd.func89, Tryd.ntmps89
  go_wp2_with fail
  go_ret
  exact ⟨rfl, rfl⟩
theorem cmp_str (s t : ByteArray) (w : World) : Calls Tryd.prog 85 #[.string s, .string t] w fun e w' => e = .returned (.int .i64 (cmpS s t)) ∧ w = w' := by
  have hl := less_cmpB s.toList t.toList
  have hz := cmpB_zero s.toList t.toList
  have hr := cmpB_range s.toList t.toList
  obtain ⟨c, hc⟩ : ∃ c, cmpB s.toList t.toList = c := ⟨_, rfl⟩
  have hcs : cmpS s t = c := hc
  rw [hcs]
  rw [hc] at hl hz hr
  have HZ := Lib.hid hz
  clear hz hc hcs
  rcases hr with rfl | rfl | rfl
  · have hl' : Op.bytesLess s.toList t.toList = true := by rw [hl]; rfl
    clear hl
    go_enter Tryd.func85, Tryd.ntmps85
    go_wp2_with fail
    refine (nan_str _ _).mono ?_
    rintro e w1 ⟨rfl, rfl⟩
    go_wp2_with fail
    refine (nan_str _ _).mono ?_
    rintro e w1 ⟨rfl, rfl⟩
    go_wp2_with fail
    go_ret
    exact ⟨rfl, rfl⟩
  · have hl' : Op.bytesLess s.toList t.toList = false := by rw [hl]; rfl
    have he : (s.toList == t.toList) = true := by rw [beq_iff_eq]; exact HZ.out.1 rfl
    clear hl
    go_enter Tryd.func85, Tryd.ntmps85
    go_wp2_with fail
    refine (nan_str _ _).mono ?_
    rintro e w1 ⟨rfl, rfl⟩
    go_wp2_with fail
    refine (nan_str _ _).mono ?_
    rintro e w1 ⟨rfl, rfl⟩
    go_wp2_with fail
    go_ret
    exact ⟨rfl, rfl⟩
  · have hl' : Op.bytesLess s.toList t.toList = false := by rw [hl]; rfl
    have he : (s.toList == t.toList) = false := by rw [beq_eq_false_iff_ne]; intro h; have := HZ.out.2 h; omega
    clear hl
    go_enter Tryd.func85, Tryd.ntmps85
    go_wp2_with fail
    refine (nan_str _ _).mono ?_
    rintro e w1 ⟨rfl, rfl⟩
    go_wp2_with fail
    refine (nan_str _ _).mono ?_
    rintro e w1 ⟨rfl, rfl⟩
    go_wp2_with fail
    go_ret
    exact ⟨rfl, rfl⟩
theorem cmp_name (s t : ByteArray) (w : World) : Calls Tryd.prog 83 #[.string s, .string t] w fun e w' => e = .returned (.int .i64 (cmpS s t)) ∧ w = w' := by
  have hl := less_cmpB s.toList t.toList
  have hz := cmpB_zero s.toList t.toList
  have hr := cmpB_range s.toList t.toList
  obtain ⟨c, hc⟩ : ∃ c, cmpB s.toList t.toList = c := ⟨_, rfl⟩
  have hcs : cmpS s t = c := hc
  rw [hcs]
  rw [hc] at hl hz hr
  have HZ := Lib.hid hz
  clear hz hc hcs
  rcases hr with rfl | rfl | rfl
  · have hl' : Op.bytesLess s.toList t.toList = true := by rw [hl]; rfl
    clear hl
    go_enter Tryd.func83, Tryd.ntmps83
    go_wp2_with fail
    refine (nan_name _ _).mono ?_
    rintro e w1 ⟨rfl, rfl⟩
    go_wp2_with fail
    refine (nan_name _ _).mono ?_
    rintro e w1 ⟨rfl, rfl⟩
    go_wp2_with fail
    go_ret
    exact ⟨rfl, rfl⟩
  · have hl' : Op.bytesLess s.toList t.toList = false := by rw [hl]; rfl
    have he : (s.toList == t.toList) = true := by rw [beq_iff_eq]; exact HZ.out.1 rfl
    clear hl
    go_enter Tryd.func83, Tryd.ntmps83
    go_wp2_with fail
    refine (nan_name _ _).mono ?_
    rintro e w1 ⟨rfl, rfl⟩
    go_wp2_with fail
    refine (nan_name _ _).mono ?_
    rintro e w1 ⟨rfl, rfl⟩
    go_wp2_with fail
    go_ret
    exact ⟨rfl, rfl⟩
  · have hl' : Op.bytesLess s.toList t.toList = false := by rw [hl]; rfl
    have he : (s.toList == t.toList) = false := by rw [beq_eq_false_iff_ne]; intro h; have := HZ.out.2 h; omega
    clear hl
    go_enter Tryd.func83, Tryd.ntmps83
    go_wp2_with fail
    refine (nan_name _ _).mono ?_
    rintro e w1 ⟨rfl, rfl⟩
    go_wp2_with fail
    refine (nan_name _ _).mono ?_
    rintro e w1 ⟨rfl, rfl⟩
    go_wp2_with fail
    go_ret
    exact ⟨rfl, rfl⟩
theorem cmp_u32 (a b : Int) (w : World) : Calls Tryd.prog 86 #[.int .u32 a, .int .u32 b] w fun e w' => e = .returned (.int .i64 (cmpI a b)) ∧ w = w' := by
  have h3 : (a < b ∧ cmpI a b = -1) ∨ (¬ a < b ∧ b < a ∧ cmpI a b = 1) ∨ (¬ a < b ∧ ¬ b < a ∧ cmpI a b = 0) := by
    unfold cmpI
    by_cases h1 : a < b
    · exact .inl ⟨h1, by simp [h1]⟩
    · by_cases h2 : b < a
      · exact .inr (.inl ⟨h1, h2, by simp [h1, h2]⟩)
      · exact .inr (.inr ⟨h1, h2, by simp [h1, h2]⟩)
  obtain ⟨c, hc⟩ : ∃ c, cmpI a b = c := ⟨_, rfl⟩
  rw [hc] at h3 ⊢
  clear hc
  rcases h3 with ⟨h1, rfl⟩ | ⟨h1, h2, rfl⟩ | ⟨h1, h2, rfl⟩
  all_goals
    go_enter Tryd.func86, Tryd.ntmps86
    go_wp2_with fail
    refine (nan_u32 _ _).mono ?_
    rintro e w1 ⟨rfl, rfl⟩
    go_wp2_with fail
    refine (nan_u32 _ _).mono ?_
    rintro e w1 ⟨rfl, rfl⟩
    go_wp2_with fail
    go_ret
    exact ⟨rfl, rfl⟩
theorem cmp_type (a b : Int) (w : World) : Calls Tryd.prog 84 #[.int .u16 a, .int .u16 b] w fun e w' => e = .returned (.int .i64 (cmpI a b)) ∧ w = w' := by
  have h3 : (a < b ∧ cmpI a b = -1) ∨ (¬ a < b ∧ b < a ∧ cmpI a b = 1) ∨ (¬ a < b ∧ ¬ b < a ∧ cmpI a b = 0) := by
    unfold cmpI
    by_cases h1 : a < b
    · exact .inl ⟨h1, by simp [h1]⟩
    · by_cases h2 : b < a
      · exact .inr (.inl ⟨h1, h2, by simp [h1, h2]⟩)
      · exact .inr (.inr ⟨h1, h2, by simp [h1, h2]⟩)
  obtain ⟨c, hc⟩ : ∃ c, cmpI a b = c := ⟨_, rfl⟩
  rw [hc] at h3 ⊢
  clear hc
  rcases h3 with ⟨h1, rfl⟩ | ⟨h1, h2, rfl⟩ | ⟨h1, h2, rfl⟩
  all_goals
    go_enter Tryd.func84, Tryd.ntmps84
    go_wp2_with fail
    refine (nan_type _ _).mono ?_
    rintro e w1 ⟨rfl, rfl⟩
    go_wp2_with fail
    refine (nan_type _ _).mono ?_
    rintro e w1 ⟨rfl, rfl⟩
    go_wp2_with fail
    go_ret
    exact ⟨rfl, rfl⟩
/-- The first that is not 0. -/
def orI : List Int → Int
  | [] => 0
  | x :: xs => if x = 0 then orI xs else x
theorem orI_zeros : ∀ (l m : List Int), (∀ x ∈ l, x = 0) → orI (l ++ m) = orI m
  | [], m, _ => rfl
  | x :: l, m, h => by
    have hx := h x (by simp)
    rw [List.cons_append, orI, if_pos hx]
    exact orI_zeros l m (fun y hy => h y (by simp [hy]))
theorem or_any (A : Option Addr) (n c : Nat) (xs : List Int) (w : World) (B : Nat) (h : Sl w B 1 A n (xs.map (Value.int .i64))) (hn : n ≤ maxLen) :
    Calls Tryd.prog 82 #[.slice A n c] w fun e w' => e = .returned (.int .i64 (orI xs)) ∧ w = w' := by
  unfold maxLen at hn
  have hl : xs.length = n := by simpa using h.1
  have H := Lib.hid h
  have HL := Lib.hid hl
  clear h hl
  go_enter Tryd.func82, Tryd.ntmps82
  go_wp2_with fail
  go_loop [8] (fun i => ∃ k : Nat, k ≤ n ∧ i = .int .i64 k ∧ Hid (∀ x ∈ xs.take k, x = 0)) (fun i => n - (intOf i).toNat)
  case atStart => exact ⟨0, Nat.zero_le _, rfl, Lib.hid (by simp)⟩
  case round =>
    obtain ⟨k, hk, rfl, HK⟩ := hrel
    by_cases hlt : k < n
    · have hlt' : (k : Int) < n := by omega
      obtain ⟨b, off, u, rfl, hb, hu, hc⟩ := H.out.at_ hlt
      obtain ⟨x, hx⟩ : ∃ x, xs[k]? = some x := ⟨_, List.getElem?_eq_getElem (by rw [HL.out]; exact hlt)⟩
      rw [List.getElem?_map, hx] at hu
      simp only [Option.map_some, Option.some.injEq] at hu
      subst hu
      have HX := Lib.hid hx
      clear hx
      by_cases h0 : x = 0
      · have hne : (x != 0) = false := by simp [h0]
        have H0 := Lib.hid h0
        clear h0
        go_wp2_with fail
        go_round
        case rel => exact ⟨k + 1, by omega, by go_num, Lib.hid (by rw [List.take_add_one, HX.out]; intro q hq; exact (List.mem_append.1 hq).elim (fun hq => HK.out q hq) (fun hq => by simp at hq; rw [hq]; exact H0.out))⟩
        case measure => simp [intOf]; omega
      · have hne : (x != 0) = true := by simp [h0]
        have H0 := Lib.hid h0
        clear h0
        go_wp2_with fail
        go_ret
        have : xs = xs.take k ++ x :: xs.drop (k + 1) := by
          have hk' : k < xs.length := by rw [HL.out]; exact hlt
          have e : xs[k] = x := by have := HX.out; rw [List.getElem?_eq_getElem hk'] at this; injection this
          rw [← e, ← List.drop_eq_getElem_cons hk', List.take_append_drop]
        refine ⟨?_, rfl⟩
        rw [this, orI_zeros _ _ HK.out]
        rw [orI, if_neg H0.out]; rfl
    · have hlt' : ¬ (k : Int) < n := by omega
      go_wp2_with fail
      go_ret
      refine ⟨?_, rfl⟩
      have h := HK.out
      rw [List.take_of_length_le (by rw [HL.out]; omega)] at h
      have := orI_zeros xs [] h
      rw [List.append_nil] at this
      rw [this]; rfl
theorem orI_cmpR (r r' : RecT) : orI [cmpS r.1 r'.1, cmpI r.2.1 r'.2.1, cmpS r.2.2.2 r'.2.2.2, cmpI r.2.2.1 r'.2.2.1] = cmpR r r' := by
  unfold orI orI orI orI orI cmpR thenC
  by_cases h1 : cmpS r.1 r'.1 = 0
  · by_cases h2 : cmpI r.2.1 r'.2.1 = 0
    · by_cases h3 : cmpS r.2.2.2 r'.2.2.2 = 0
      · by_cases h4 : cmpI r.2.2.1 r'.2.2.1 = 0 <;> simp [h1, h2, h3, h4]
      · simp [h1, h2, h3]
    · simp [h1, h2]
  · simp [h1]
/-- The results of the four comparisons. -/
def fourW (r r' : RecT) : Value → World → Prop := fun v w => ∃ g, v = .slice (some ⟨g, 0, none⟩) 4 4 ∧ Sl w w.heap.size 1 (some ⟨g, 0, none⟩) 4 ([cmpS r.1 r'.1, cmpI r.2.1 r'.2.1, cmpS r.2.2.2 r'.2.2.2, cmpI r.2.2.1 r'.2.2.1].map (Value.int .i64))
theorem fourW_stays (r r' : RecT) : ∀ v w w', fourW r r' v w → Goes w w' → fourW r r' v w' := by
  rintro v w w' ⟨g, rfl, h⟩ hb
  exact ⟨g, rfl, (h.below hb).more hb.size⟩
attribute [local simp] putsF isV wordOf Deps Region.binds Region.wanted Act.put wantedX isB
set_option maxHeartbeats 1600000 in
theorem compare_any (r r' : RecT) (w : World) : Calls Tryd.prog 72 #[recV r, recV r'] w fun e w' => e = .returned (.int .i64 (cmpR r r')) ∧ Below w.heap.size w w' := by
  have HO := Lib.hid (orI_cmpR r r')
  unfold recV
  obtain ⟨W, hW⟩ : ∃ W, W = (w.alloc (.cells #[.string r.1, .int .u16 r.2.1, .int .u32 r.2.2.1, .string r.2.2.2] 41)).alloc (.cells #[.string r'.1, .int .u16 r'.2.1, .int .u32 r'.2.2.1, .string r'.2.2.2] 41) := ⟨_, rfl⟩
  obtain ⟨b, hb⟩ : ∃ b, b = w.heap.size := ⟨_, rfl⟩
  obtain ⟨g, hg⟩ : ∃ b, b = w.heap.size + 1 := ⟨_, rfl⟩
  have hC : Cs W b [.string r.1, .int .u16 r.2.1, .int .u32 r.2.2.1, .string r.2.2.2] := by rw [hW, hb]; exact (Cs.new w _ _ _).alloc _
  have hG : Cs W g [.string r'.1, .int .u16 r'.2.1, .int .u32 r'.2.2.1, .string r'.2.2.2] := by rw [hW, hg]; exact (Cs.new _ _ _ _).at_ _ (by simp)
  have hbW : Below w.heap.size w W := by rw [hW]; exact ((Below.refl _ _).alloc (Nat.le_refl _) _).alloc (by simp) _
  have HW := Lib.hid hW
  have HBB := Lib.hid hb
  have HGG := Lib.hid hg
  have HBW := Lib.hid hbW
  have HC := Lib.hid hC
  have HG := Lib.hid hG
  clear hW hb hg hC hG hbW
  go_enter Tryd.func72, Tryd.ntmps72
  go_upto_region 1 with fail
  rw [← HW.out]
  refine wp_region_goesG data_follows (fun x => by simp [putsF, Act.put]; rfl) W.heap.size W
    [isV (.pointer (some ⟨b, 0, none⟩)), isV (.string r.1), isV (.pointer (some ⟨g, 0, none⟩)), isV (.string r'.1), isV (.int .i64 (cmpS r.1 r'.1)), isV (.pointer (some ⟨b, 1, none⟩)), isV (.int .u16 r.2.1), isV (.pointer (some ⟨g, 1, none⟩)), isV (.int .u16 r'.2.1), isV (.int .i64 (cmpI r.2.1 r'.2.1)), isV (.pointer (some ⟨b, 3, none⟩)), isV (.string r.2.2.2), isV (.pointer (some ⟨g, 3, none⟩)), isV (.string r'.2.2.2), isV (.int .i64 (cmpS r.2.2.2 r'.2.2.2)), isV (.pointer (some ⟨b, 2, none⟩)), isV (.int .u32 r.2.2.1), isV (.pointer (some ⟨g, 2, none⟩)), isV (.int .u32 r'.2.2.1), isV (.int .i64 (cmpI r.2.2.1 r'.2.2.1)), fourW r r', isV (.int .i64 (cmpR r r')), isV (.int .i64 (cmpR r r'))]
    (by kernel_rfl) (by kernel_rfl) (by kernel_rfl) rfl ?_ (Below.refl _ _) ?_ ?_
  · repeat (first | exact trivial | refine ⟨by first | exact isV_stays _ | exact fourW_stays _ _, ?_⟩)
  · refine ⟨?_, ?_, ?_, ?_, ?_, ?_, ?_, ?_, ?_, ?_, ?_, ?_, ?_, ?_, ?_, ?_, ?_, ?_, ?_, ?_, ?_, ?_, ?_, trivial⟩
    all_goals
      intro x wx hR hd
      refine ⟨fun _ => ?_, fun hX => by simp at hX⟩
      simp at hd ⊢
      have q := HC.out.below hR
      have k0 := q.get 0 _
      have k1 := q.get 1 _
      have k2 := q.get 2 _
      have k3 := q.get 3 _
      clear q
      have q := HG.out.below hR
      have l0 := q.get 0 _
      have l1 := q.get 1 _
      have l2 := q.get 2 _
      have l3 := q.get 3 _
      clear q
    · go_simp; exact next_same _ rfl (by show Value.pointer _ = Value.pointer _; first | rfl | rw [HBB.out] | rw [HGG.out]) hR
    · go_simp; exact next_same _ rfl rfl hR
    · go_simp; exact next_same _ rfl (by show Value.pointer _ = Value.pointer _; first | rfl | rw [HBB.out] | rw [HGG.out]) hR
    · go_simp; exact next_same _ rfl rfl hR
    · obtain ⟨hd0, hd1⟩ := hd
      go_simp
      go_at_call 83
      refine (cmp_name _ _ wx).mono ?_
      rintro e w2 ⟨rfl, rfl⟩
      exact next_same _ rfl rfl hR
    · go_simp; exact next_same _ rfl (by show Value.pointer _ = Value.pointer _; first | rfl | rw [HBB.out] | rw [HGG.out]) hR
    · go_simp; exact next_same _ rfl rfl hR
    · go_simp; exact next_same _ rfl (by show Value.pointer _ = Value.pointer _; first | rfl | rw [HBB.out] | rw [HGG.out]) hR
    · go_simp; exact next_same _ rfl rfl hR
    · obtain ⟨hd0, hd1⟩ := hd
      go_simp
      go_at_call 84
      refine (cmp_type _ _ wx).mono ?_
      rintro e w2 ⟨rfl, rfl⟩
      exact next_same _ rfl rfl hR
    · go_simp; exact next_same _ rfl (by show Value.pointer _ = Value.pointer _; first | rfl | rw [HBB.out] | rw [HGG.out]) hR
    · go_simp; exact next_same _ rfl rfl hR
    · go_simp; exact next_same _ rfl (by show Value.pointer _ = Value.pointer _; first | rfl | rw [HBB.out] | rw [HGG.out]) hR
    · go_simp; exact next_same _ rfl rfl hR
    · obtain ⟨hd0, hd1⟩ := hd
      go_simp
      go_at_call 85
      refine (cmp_str _ _ wx).mono ?_
      rintro e w2 ⟨rfl, rfl⟩
      exact next_same _ rfl rfl hR
    · go_simp; exact next_same _ rfl (by show Value.pointer _ = Value.pointer _; first | rfl | rw [HBB.out] | rw [HGG.out]) hR
    · go_simp; exact next_same _ rfl rfl hR
    · go_simp; exact next_same _ rfl (by show Value.pointer _ = Value.pointer _; first | rfl | rw [HBB.out] | rw [HGG.out]) hR
    · go_simp; exact next_same _ rfl rfl hR
    · obtain ⟨hd0, hd1⟩ := hd
      go_simp
      go_at_call 86
      refine (cmp_u32 _ _ wx).mono ?_
      rintro e w2 ⟨rfl, rfl⟩
      exact next_same _ rfl rfl hR
    · obtain ⟨hd0, hd1, hd2, hd3⟩ := hd
      go_simp
      exact next_alloc _ _ rfl ⟨_, rfl, Sl.fresh _ _ _ 4 _ rfl rfl⟩ hR hR.size
    · obtain ⟨⟨g', hx, hS⟩, -⟩ := hd
      rw [hx]
      go_simp
      go_at_call 82
      refine (or_any _ 4 4 _ wx _ hS (by decide)).mono ?_
      rintro e w2 ⟨rfl, rfl⟩
      rw [HO.out]
      exact next_same _ rfl rfl hR
    · go_simp; exact next_same _ rfl rfl hR
  · intro x wx hR hx
    simp [AllWords] at hx
    have h22 : x 22 = .int .i64 (cmpR r r') := by simp [hx]
    have HBX := Lib.hid (below_trans HBW.out HBW.out.size hR)
    rw [h22]
    clear hx
    go_wp2_with fail
    go_ret
    exact ⟨rfl, HBX.out⟩
end Go.Proofs.YtpbbnpglcadimaaDoor
