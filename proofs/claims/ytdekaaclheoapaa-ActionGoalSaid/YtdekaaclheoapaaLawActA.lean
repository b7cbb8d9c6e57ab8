/- The document's examples of layer 14; the walks of ActionOver and ActionGoal. -/
import Derived.Test.YtdekaaclheoapaaActB
import Derived.Test.YtdekaaclheoapaaView
namespace Go.Proofs.Ytdekaaclheoapaa
open Go.RowKit
set_option linter.unusedVariables false
set_option maxRecDepth 20000

theorem actV_act3 (k : Int) (s : ByteArray) (b : Bool) : actV (k, s, b) = act3 k s b := rfl
set_option maxHeartbeats 800000 in
theorem awake14_any (w : World) : Calls Try.prog 41 #[] w fun e w' => e = .returned (.bool true) ∧ Below w.heap.size w w' := by
  have m1 := fun (w : World) h => make_any (some ⟨w.heap.size, 0, none⟩) 1 1 [⟨#[42]⟩] (w.alloc (.cells #[.string ⟨#[42]⟩] 9)) h (by intro t ht; simp at ht; subst ht; decide) (by decide)
  have m2 := fun (w : World) h => make_any (some ⟨w.heap.size, 0, none⟩) 2 2 [⟨#[42]⟩, ⟨#[120]⟩] (w.alloc (.cells #[.string ⟨#[42]⟩, .string ⟨#[120]⟩] 9)) h (by intro t ht; simp at ht; rcases ht with rfl | rfl <;> decide) (by decide)
  have m3 := fun (w : World) h => make_any (some ⟨w.heap.size, 0, none⟩) 1 1 [⟨#[97]⟩] (w.alloc (.cells #[.string ⟨#[97]⟩] 9)) h (by intro t ht; simp at ht; subst ht; decide) (by decide)
  have m4 := fun (w : World) h => make_any (some ⟨w.heap.size, 0, none⟩) 2 2 [⟨#[97]⟩, ⟨#[120]⟩] (w.alloc (.cells #[.string ⟨#[97]⟩, .string ⟨#[120]⟩] 9)) h (by intro t ht; simp at ht; rcases ht with rfl | rfl <;> decide) (by decide)
  rw [show nameOf [⟨#[42]⟩] = [1, 42] by decide +kernel] at m1
  rw [show nameOf [⟨#[42]⟩, ⟨#[120]⟩] = [1, 42, 1, 120] by decide +kernel] at m2
  rw [show nameOf [⟨#[97]⟩] = [1, 97] by decide +kernel] at m3
  rw [show nameOf [⟨#[97]⟩, ⟨#[120]⟩] = [1, 97, 1, 120] by decide +kernel] at m4
  unfold sv at m1 m2 m3 m4
  have M1 := Lib.hid m1
  have M2 := Lib.hid m2
  have M3 := Lib.hid m3
  have M4 := Lib.hid m4
  have o1 := fun (g : Nat) (w : World) hC => of_cname g 1 ⟨#[]⟩ ⟨#[1, 42]⟩ 0 w hC (by decide)
  have o2 := fun (g : Nat) (w : World) hC => of_cname g 1 ⟨#[]⟩ ⟨#[1, 42, 1, 120]⟩ 0 w hC (by decide)
  rw [show tgtOf ⟨#[1, 42]⟩ = (5, ⟨#[]⟩, false) by decide +kernel] at o1
  rw [show tgtOf ⟨#[1, 42, 1, 120]⟩ = (7, ⟨#[1, 120]⟩, true) by decide +kernel] at o2
  unfold actV at o1 o2
  have O1 := Lib.hid o1
  have O2 := Lib.hid o2
  have gg := fun w => goal_any 7 ⟨#[1, 120]⟩ true ⟨#[1, 97]⟩ w (by decide) (by decide)
  rw [show goalOf 7 ⟨#[1, 120]⟩ true ⟨#[1, 97]⟩ = some ⟨#[1, 97, 1, 120]⟩ by decide +kernel] at gg
  unfold act3 strOf at gg
  simp only [Option.getD_some, Option.isSome_some] at gg
  have GG := Lib.hid gg
  clear m1 m2 m3 m4 o1 o2 gg
  go_enter Try.func41, Try.ntmps41
  go_wp2_with fail
  refine (M1.out _ (Sl.fresh _ _ _ _ _ rfl rfl)).mono ?_
  rintro e w1 ⟨rfl, hb1'⟩
  have hb1 := below_alloc _ (Below.refl _ _) (Nat.le_refl _) hb1'
  clear hb1'
  go_wp2_with fail
  refine (M2.out _ (Sl.fresh _ _ _ _ _ rfl rfl)).mono ?_
  rintro e w2 ⟨rfl, hb2'⟩
  have hb2 := below_alloc _ hb1 hb1.size hb2'
  clear hb2' hb1
  go_wp2_with fail
  refine (O1.out _ _ (Cs.new w2 #[.string ⟨#[]⟩, .int .u16 5, .int .u32 0, .string ⟨#[1, 42]⟩] _ _)).mono ?_
  rintro e w3 ⟨rfl, hb3'⟩
  have hb3 := below_alloc _ hb2 hb2.size hb3'
  clear hb3' hb2
  go_wp2_with fail
  have hP := Cs.new w3 #[.int .i64 5, .string ⟨#[]⟩, .bool false, .slice none 0 0] 84 [.int .i64 5, .string ⟨#[]⟩, .bool false, .slice none 0 0]
  have hb4 := hb3.alloc hb3.size (.cells #[.int .i64 5, .string ⟨#[]⟩, .bool false, .slice none 0 0] 84)
  have hz4 : (w3.alloc (.cells #[.int .i64 5, .string ⟨#[]⟩, .bool false, .slice none 0 0] 84)).heap.size = w3.heap.size + 1 := by simp
  generalize hW4 : w3.alloc (.cells #[.int .i64 5, .string ⟨#[]⟩, .bool false, .slice none 0 0] 84) = W4 at *
  generalize hP5 : w3.heap.size = P5 at *
  clear hW4 hP5 hb3
  refine (O2.out (P5 + 1) _ ((Cs.new W4 #[.string ⟨#[]⟩, .int .u16 5, .int .u32 0, .string ⟨#[1, 42, 1, 120]⟩] _ [.string ⟨#[]⟩, .int .u16 5, .int .u32 0, .string ⟨#[1, 42, 1, 120]⟩]).at_ _ hz4)).mono ?_
  rintro e w5 ⟨rfl, hb5'⟩
  have hP' := (hP.alloc _).below hb5'
  have hb5 := below_alloc _ hb4 hb4.size hb5'
  clear hb5' hb4 hP
  go_wp2_with fail
  have hQ := Cs.new w5 #[.int .i64 7, .string ⟨#[1, 120]⟩, .bool true, .slice none 0 0] 84 [.int .i64 7, .string ⟨#[1, 120]⟩, .bool true, .slice none 0 0]
  have hP6 := hP'.alloc (.cells #[.int .i64 7, .string ⟨#[1, 120]⟩, .bool true, .slice none 0 0] 84)
  have hb6 := hb5.alloc hb5.size (.cells #[.int .i64 7, .string ⟨#[1, 120]⟩, .bool true, .slice none 0 0] 84)
  have hz6 : (w5.alloc (.cells #[.int .i64 7, .string ⟨#[1, 120]⟩, .bool true, .slice none 0 0] 84)).heap.size = w5.heap.size + 1 := by simp
  generalize hW6 : w5.alloc (.cells #[.int .i64 7, .string ⟨#[1, 120]⟩, .bool true, .slice none 0 0] 84) = W6 at *
  generalize hP7 : w5.heap.size = P7 at *
  have M3' := M3.out W6 (Sl.fresh _ _ _ _ _ rfl rfl)
  rw [hz6] at M3'
  clear hW6 hP7 hb5 hP'
  refine M3'.mono ?_
  rintro e w7 ⟨rfl, hb7'⟩
  have hP7' := (hP6.alloc _).below hb7'
  have hQ7 := (hQ.alloc _).below hb7'
  have hb7 := below_alloc _ hb6 hb6.size hb7'
  have c0 := hQ7.get 0 _
  have c1 := hQ7.get 1 _
  have c2 := hQ7.get 2 _
  have c3 := hQ7.get 3 _
  clear hb7' hb6 hP6 hQ M3' hz6 hz4
  go_wp2_with fail
  clear c0 c1 c2 c3
  refine (GG.out _).mono ?_
  rintro e w8 ⟨rfl, hb8'⟩
  have hP8 := hP7'.below hb8'
  have hQ8 := hQ7.below hb8'
  have hb8 := below_trans hb7 hb7.size hb8'
  clear hb8' hb7 hP7' hQ7
  go_wp2_with fail
  refine (M4.out _ (Sl.fresh _ _ _ _ _ rfl rfl)).mono ?_
  rintro e w9 ⟨rfl, hb9'⟩
  have hP9 := (hP8.alloc _).below hb9'
  have hQ9 := (hQ8.alloc _).below hb9'
  have hb9 := below_alloc _ hb8 hb8.size hb9'
  have c0 := hP9.get 0 _
  have c2 := hQ9.get 2 _
  clear hb9' hb8 hP8 hQ8 hP9 hQ9
  go_wp2_with fail
  go_ret
  exact ⟨rfl, hb9⟩
set_option maxHeartbeats 3200000 in
theorem actionOver_walk (w : World) (RA : Option Addr) (rn rc : Nat) (h : Int) (hhw : (Lit.int .u8 h).wf = true) (A : Option Addr) (n c : Nat) (zs : List Int) (hV : SlView w A n c (zs.map (Value.int .u8))) (hl : zs.length = n) (hzw : ∀ z ∈ zs, (Lit.int .u8 z).wf = true) (hc : c ≤ 140737488351232) (kind : Int) (hkw : (Lit.int .i64 kind).wf = true) :
    Calls Try.prog 14 #[.slice RA rn rc, .int .u8 h, .slice A n c, .int .i64 kind] w fun e w' => e = .returned (.bool true) ∧ Below w.heap.size w w' := by
  have hz : ∀ z ∈ zs, 0 ≤ z ∧ z < 256 := fun z h => by have := bounds_u8 (hzw z h); omega
  have hA : Sl w w.heap.size 1 A n (zs.map (Value.int .u8)) := hV.sl
  have hnc := hV.le
  obtain ⟨h, rfl⟩ : ∃ k : Nat, h = k := ⟨h.toNat, by have := bounds_u8 hhw; omega⟩
  have hh : h < 256 := by have := bounds_u8 hhw; omega
  have TG := Lib.hid (fun (w' : World) (hS : Sl w' w'.heap.size 1 A n (zs.map (Value.int .u8))) => target_any h hh A n c zs w' hS hz (by omega))
  have OV := Lib.hid (fun k0 s b w => over_any k0 s b kind w)
  have SS := Lib.hid (fun k s b w => same_self k s b w)
  have OC := Lib.hid (fun (g : Nat) d (w : World) hC hd => of_cname g 1 ⟨#[]⟩ d 0 w hC hd)
  clear hz hzw hV hl hhw hkw hh
  go_enter Try.func14, Try.ntmps14
  go_wp2_with fail
  refine (awake14_any _).mono ?_
  rintro e w1 ⟨rfl, hb1⟩
  go_wp2_with fail
  refine (TG.out _ ((hA.below hb1).more hb1.size)).mono ?_
  rintro e w2 ⟨d, rfl, hd84, -, hb2'⟩
  have hb2 := below_trans hb1 hb1.size hb2'
  clear hb2' hb1
  obtain ⟨k0, s0, b0, hv⟩ : ∃ k s b, actV (tgtOf d) = .agg #[.int .i64 k, .string s, .bool b, .slice none 0 0] := ⟨_, _, _, rfl⟩
  have oc := OC.out w2.heap.size d _ (Cs.new w2 #[.string ⟨#[]⟩, .int .u16 5, .int .u32 0, .string d] 40 _) (by omega)
  rw [hv] at oc
  have OC1 := Lib.hid oc
  clear hv oc OC
  go_wp2_with fail
  refine OC1.out.mono ?_
  rintro e w3 ⟨rfl, hb3'⟩
  have hb3 := below_alloc _ hb2 hb2.size hb3'
  clear hb3' hb2 OC1
  have ov := fun w => OV.out k0 s0 b0 w
  have sb : ∀ w, Calls Try.prog 47 #[if overK kind then act3 kind ⟨#[]⟩ false else act3 k0 s0 b0, if overK kind then act3 kind ⟨#[]⟩ false else act3 k0 s0 b0] w fun e w' => e = .returned (.bool true) ∧ Below w.heap.size w w' := by
    intro w; split <;> exact SS.out _ _ _ w
  have hk7 : (overK kind = true ∧ 1 ≤ kind ∧ kind ≤ 6) ∨ (overK kind = false ∧ (kind < 1 ∨ 6 < kind)) := by
    by_cases hk : 1 ≤ kind ∧ kind ≤ 6
    · left; exact ⟨by unfold overK; simpa using hk, hk⟩
    · right; exact ⟨by unfold overK; simpa using hk, by omega⟩
  have hP := Cs.new w3 #[.int .i64 k0, .string s0, .bool b0, .slice none 0 0] 84 [.int .i64 k0, .string s0, .bool b0, .slice none 0 0]
  have hb4 := hb3.alloc hb3.size (.cells #[.int .i64 k0, .string s0, .bool b0, .slice none 0 0] 84)
  rcases hk7 with ⟨ho, hk1, hk6⟩ | ⟨ho, hkk⟩
  · rw [ho] at ov sb
    simp only [if_true] at ov sb
    unfold act3 at ov sb
    have OV1 := Lib.hid ov
    have SB := Lib.hid sb
    have hks : kind = 1 ∨ kind = 2 ∨ kind = 3 ∨ kind = 4 ∨ kind = 5 ∨ kind = 6 := by omega
    clear ov sb ho OV SS TG hk1 hk6 hb3
    go_wp2_with fail
    refine (OV1.out _).mono ?_
    rintro e w5 ⟨rfl, hb5'⟩
    have hb5 := below_trans hb4 hb4.size hb5'
    have hb6 := hb5.alloc hb5.size (.cells #[.int .i64 kind, .string ⟨#[]⟩, .bool false, .slice none 0 0] 84)
    clear hb5 hb5' hb4 hP
    rcases hks with rfl | rfl | rfl | rfl | rfl | rfl
    all_goals
      go_wp2_with fail
      refine (SB.out _).mono ?_
      rintro e w7 ⟨rfl, hb7'⟩
      have hb7 := below_trans hb6 hb6.size hb7'
      go_wp2_with fail
      go_ret
      exact ⟨rfl, hb7⟩
  · rw [ho] at ov sb
    simp only [Bool.false_eq_true, if_false] at ov sb
    unfold act3 at ov sb
    have OV1 := Lib.hid ov
    have SB := Lib.hid sb
    have h1 : (kind == 1) = false := by simp; omega
    have h2 : (kind == 2) = false := by simp; omega
    have h3 : (kind == 3) = false := by simp; omega
    have h4 : (kind == 4) = false := by simp; omega
    have h5 : (kind == 5) = false := by simp; omega
    have h6 : (kind == 6) = false := by simp; omega
    clear ov sb ho OV SS TG hkk hb3
    go_wp2_with fail
    refine (OV1.out _).mono ?_
    rintro e w5 ⟨rfl, hb5'⟩
    have hP5 := hP.below hb5'
    have hb5 := below_trans hb4 hb4.size hb5'
    have hb6 := hb5.alloc hb5.size (.cells #[.int .i64 k0, .string s0, .bool b0, .slice none 0 0] 84)
    have hlt := hP5.lt
    have c0 := hP5.get 0 _
    have c1 := hP5.get 1 _
    have c2 := hP5.get 2 _
    have c3 := hP5.get 3 _
    clear hb5 hb5' hb4 hP hP5
    go_wp2_with fail
    refine (SB.out _).mono ?_
    rintro e w7 ⟨rfl, hb7'⟩
    have hb7 := below_trans hb6 hb6.size hb7'
    go_wp2_with fail
    go_ret
    exact ⟨rfl, hb7⟩
end Go.Proofs.Ytdekaaclheoapaa
