/- The walk of ActionGoal. -/
import Derived.Test.YtdekaaclheoapaaLawActG
namespace Go.Proofs.Ytdekaaclheoapaa
open Go.RowKit
set_option linter.unusedVariables false
set_option maxRecDepth 20000
set_option linter.unusedSimpArgs false

theorem ofL7 {s : ByteArray} {LS : List (List UInt8)} (h : labelsOf s = some LS) {t : ByteArray} {b : Bool} (e : ofL s LS = (7, t, b)) : (labelsOf t).isSome = true ∧ t.size ≤ s.size := by
  have hok := (nameLabels_iff _ _).1 h
  have hself : (labelsOf s).isSome = true ∧ s.size ≤ s.size := ⟨by rw [h]; rfl, Nat.le_refl _⟩
  match LS, e with
  | [], e => simp [ofL] at e
  | [l], e =>
    simp only [ofL] at e
    split at e
    · simp at e
    · split at e
      · simp at e
      · split at e
        · simp at e
        · split at e
          · simp at e
          · simp only [Prod.mk.injEq] at e
            rw [← e.2.1]; exact hself
  | l :: m :: ls, e =>
    simp only [ofL] at e
    split at e
    · simp only [Prod.mk.injEq] at e
      rw [← e.2.1]
      have hlen : (wire (l :: m :: ls)).length = l.length + 1 + (wire (m :: ls)).length := by rw [wire_cons]; simp; omega
      have hs : s.data.toList.length = s.size := by simp
      rw [hok.2.1, hlen] at hs
      constructor
      · have : labelsOf ⟨(wire (m :: ls)).toArray⟩ = some (m :: ls) := by
          unfold labelsOf
          rw [mk_toList]
          exact (nameLabels_iff _ _).2 ⟨by have := hok.1; rw [hok.2.1, hlen] at this; omega, rfl, fun x hx => hok.2.2 x (by simp [List.mem_cons] at hx ⊢; exact .inr hx)⟩
        rw [this]; rfl
      · rw [mk_size]; omega
    · simp only [Prod.mk.injEq] at e
      rw [← e.2.1]; exact hself
set_option maxHeartbeats 6400000 in
theorem actionGoal_walk (w : World) (h : Int) (hhw : (Lit.int .u8 h).wf = true) (A : Option Addr) (n c : Nat) (zs : List Int) (hV : SlView w A n c (zs.map (Value.int .u8))) (hl : zs.length = n) (hzw : ∀ z ∈ zs, (Lit.int .u8 z).wf = true) (hc : c ≤ 140737488351232)
    (B : Option Addr) (m d : Nat) (ys : List Int) (hV2 : SlView w B m d (ys.map (Value.int .u8))) (hl2 : ys.length = m) (hyw : ∀ z ∈ ys, (Lit.int .u8 z).wf = true) (hd : d ≤ 140737488351232)
    (kind : Int) (hkw : (Lit.int .u8 kind).wf = true) (raw : ByteArray) (hraw : raw.size ≤ 140737488351232) :
    Calls Try.prog 13 #[.int .u8 h, .slice A n c, .slice B m d, .int .u8 kind, .string raw] w fun e w' => e = .returned (.bool true) ∧ Below w.heap.size w w' := by
  have hz : ∀ z ∈ zs, 0 ≤ z ∧ z < 256 := fun z h => by have := bounds_u8 (hzw z h); omega
  have hy : ∀ z ∈ ys, 0 ≤ z ∧ z < 256 := fun z h => by have := bounds_u8 (hyw z h); omega
  have hA : Sl w w.heap.size 1 A n (zs.map (Value.int .u8)) := hV.sl
  have hB : Sl w w.heap.size 1 B m (ys.map (Value.int .u8)) := hV2.sl
  have hnc := hV.le
  have hmd := hV2.le
  obtain ⟨h, rfl⟩ : ∃ k : Nat, h = k := ⟨h.toNat, by have := bounds_u8 hhw; omega⟩
  have hh : h < 256 := by have := bounds_u8 hhw; omega
  obtain ⟨kind, rfl⟩ : ∃ k : Nat, kind = k := ⟨kind.toNat, by have := bounds_u8 hkw; omega⟩
  have hk2 : ((kind : Int) % 2 = 0) ∨ ((kind : Int) % 2 = 1) := by omega
  have TG := Lib.hid (fun (w' : World) (hS : Sl w' w'.heap.size 1 A n (zs.map (Value.int .u8))) => target_any h hh A n c zs w' hS hz (by omega))
  have NB := Lib.hid (fun (w' : World) (h : Sl w' w'.heap.size 1 B m (ys.map (Value.int .u8))) => name_any B m d ys w' h hy (by unfold maxLen; omega))
  have mM := nameZ_may ys hy
  have lM := nameZ_len ys hy
  generalize nameZ ys = Y at *
  obtain ⟨M, hM⟩ : ∃ M, M = ByteArray.mk Y.toArray := ⟨_, rfl⟩
  have mY : M.data.toList = Y := by rw [hM, mk_toList]
  have sM : M.size ≤ 84 := by rw [hM, mk_size]; exact lM
  unfold sv at NB
  rw [← hM] at NB
  have hMay : (labelsOf M).isSome = true := by rw [may_mayL, mY]; exact mM
  have HMY := Lib.hid hMay
  have MR := Lib.hid (fun w => may_any raw w (by unfold maxLen; omega))
  have GL := Lib.hid (fun b w => goal_any 7 raw b M w (by omega) (by omega))
  have GA := Lib.hid (fun k t b w (hs : t.size ≤ 84) => goal_any k t b M w (by omega) (by omega))
  have OF := Lib.hid (fun s LS w hs hlo => of14_any s LS w hs hlo)
  clear hz hy hzw hyw hV hV2 hl hl2 hhw hkw hh hM mY mM lM hMay
  go_enter Try.func13, Try.ntmps13
  go_wp2_with fail
  refine (awake14_any _).mono ?_
  rintro e w1 ⟨rfl, hb1⟩
  go_wp2_with fail
  refine (TG.out _ ((hA.below hb1).more hb1.size)).mono ?_
  rintro e w2 ⟨s, rfl, hs84, hsm, hb2'⟩
  have hb2 := below_trans hb1 hb1.size hb2'
  clear hb2' hb1
  obtain ⟨LS, hLS⟩ := Option.isSome_iff_exists.1 ((may_mayL s).2 hsm)
  obtain ⟨⟨k, t, b⟩, hv⟩ : ∃ v, ofL s LS = v := ⟨_, rfl⟩
  have of1 := fun w => OF.out s LS w (by omega) hLS
  rw [hv] at of1
  have ht84 : k = 7 → (labelsOf t).isSome = true ∧ t.size ≤ 84 := fun hk => by
    subst hk
    obtain ⟨h1, h2⟩ := ofL7 hLS hv
    exact ⟨h1, by omega⟩
  have ht : t.size ≤ 84 := by
    by_cases hk : k = 7
    · exact (ht84 hk).2
    · have : t = ⟨#[]⟩ ∨ t = s := by
        match LS, hv with
        | [], hv => simp [ofL] at hv; left; exact hv.2.1.symm
        | [l], hv =>
          simp only [ofL] at hv
          split at hv
          · simp only [Prod.mk.injEq] at hv; left; exact hv.2.1.symm
          split at hv
          · simp only [Prod.mk.injEq] at hv; left; exact hv.2.1.symm
          split at hv
          · simp only [Prod.mk.injEq] at hv; left; exact hv.2.1.symm
          split at hv
          · simp only [Prod.mk.injEq] at hv; left; exact hv.2.1.symm
          · simp only [Prod.mk.injEq] at hv; right; exact hv.2.1.symm
        | l :: m :: ls, hv =>
          simp only [ofL] at hv
          split at hv <;> (simp only [Prod.mk.injEq] at hv; exact absurd hv.1.symm hk)
      rcases this with rfl | rfl
      · decide
      · exact hs84
  have O1 := Lib.hid of1
  have ga := fun w => GA.out k t b w ht
  have HT84 := Lib.hid ht84
  unfold actV at O1
  unfold act3 at ga GL
  simp only [] at O1
  clear of1 hv OF GA ht84 hsm hLS
  go_wp2_with fail
  refine (O1.out _).mono ?_
  rintro e w3 ⟨rfl, hb3'⟩
  have hb3 := below_trans hb2 hb2.size hb3'
  clear hb2 hb3' O1 TG
  go_wp2_with fail
  have hP := Cs.new w3 #[.int .i64 k, .string t, .bool b, .slice none 0 0] 84 [.int .i64 k, .string t, .bool b, .slice none 0 0]
  have hb4 := hb3.alloc hb3.size (.cells #[.int .i64 k, .string t, .bool b, .slice none 0 0] 84)
  generalize hW4 : w3.alloc (.cells #[.int .i64 k, .string t, .bool b, .slice none 0 0] 84) = W4 at *
  generalize hP5 : w3.heap.size = P5 at *
  clear hW4 hP5 hb3
  refine (NB.out _ ((hB.below hb4).more hb4.size)).mono ?_
  rintro e w5 ⟨rfl, hb5'⟩
  have hP' := hP.below hb5'
  have hb5 := below_trans hb4 hb4.size hb5'
  clear hb4 hb5' hP NB
  by_cases hk : k = 7
  · subst hk
    obtain ⟨htm, -⟩ := HT84.out rfl
    have hG : goalOf 7 t b M = some (if b then M ++ t else t) := by
      unfold goalOf
      rw [if_pos ⟨rfl, htm⟩]
      cases b
      · rfl
      · simp only [if_true]; unfold joinOf; rw [if_pos ⟨HMY.out, htm, by omega⟩]
    rw [hG] at ga
    unfold strOf at ga
    simp only [Option.getD_some, Option.isSome_some] at ga
    have GA1 := Lib.hid ga
    have q1 : ¬ 9223372036854775807 < M.size + t.size := by omega
    clear ga hG HT84 htm
    have c0 := hP'.get 0 _
    have c1 := hP'.get 1 _
    have c2 := hP'.get 2 _
    have c3 := hP'.get 3 _
    go_wp2_with fail
    clear c0 c1 c2 c3
    refine (GA1.out _).mono ?_
    rintro e w6 ⟨rfl, hb6'⟩
    have hP6 := hP'.below hb6'
    have hb6 := below_trans hb5 hb5.size hb6'
    have c0 := hP6.get 0 _
    have c1 := hP6.get 1 _
    have c2 := hP6.get 2 _
    clear hP' hb5 hb6' hP6 GA1
    have q2 : ¬ 9223372036854775807 < M.size + raw.size := by omega
    have i1 : IntKind.i64.wrap ((raw.size : Int) + M.size) = (raw.size : Int) + M.size := IntWalk.i64_in _ (by omega)
    obtain ⟨x, hx⟩ : ∃ x, (labelsOf raw).isSome = x := ⟨_, rfl⟩
    have mr := MR.out
    rw [hx] at mr
    have MR1 := Lib.hid mr
    clear mr MR
    cases b
    all_goals
      simp only [if_true, Bool.false_eq_true, if_false]
      rcases hk2 with hk2 | hk2
      · have gl := fun w => GL.out false w
        cases x with
        | false =>
          rw [show goalOf 7 raw false M = none by unfold goalOf; rw [if_neg (by rw [hx]; simp)]] at gl
          clear hx GL HMY
          unfold strOf at gl
          simp only [Option.getD_some, Option.isSome_some, Option.getD_none, Option.isSome_none] at gl
          have G1 := Lib.hid gl
          clear gl
          go_wp2_with fail
          refine (G1.out _).mono ?_
          rintro e w7 ⟨rfl, hb7'⟩
          have hb7 := below_alloc _ hb6 hb6.size hb7'
          clear hb7' G1 c0 c1 c2
          go_wp2_with fail
          refine (MR1.out _).mono ?_
          rintro e w8 ⟨rfl, hb8'⟩
          have hb8 := below_trans hb7 hb7.size hb8'
          go_wp2_with fail
          go_ret
          exact ⟨rfl, hb8⟩
        | true =>
          rw [show goalOf 7 raw false M = some raw by unfold goalOf; rw [if_pos ⟨rfl, hx⟩]; rfl] at gl
          clear hx GL HMY
          unfold strOf at gl
          simp only [Option.getD_some, Option.isSome_some, Option.getD_none, Option.isSome_none] at gl
          have G1 := Lib.hid gl
          clear gl
          go_wp2_with fail
          refine (G1.out _).mono ?_
          rintro e w7 ⟨rfl, hb7'⟩
          have hb7 := below_alloc _ hb6 hb6.size hb7'
          clear hb7' G1 c0 c1 c2
          go_wp2_with fail
          refine (MR1.out _).mono ?_
          rintro e w8 ⟨rfl, hb8'⟩
          have hb8 := below_trans hb7 hb7.size hb8'
          go_wp2_with fail
          go_ret
          exact ⟨rfl, hb8⟩
      · have gl := fun w => GL.out true w
        cases x with
        | false =>
          rw [show goalOf 7 raw true M = none by unfold goalOf; rw [if_neg (by rw [hx]; simp)]] at gl
          clear hx GL HMY
          unfold strOf at gl
          simp only [Option.getD_some, Option.isSome_some, Option.getD_none, Option.isSome_none] at gl
          have G1 := Lib.hid gl
          clear gl
          go_wp2_with fail
          refine (G1.out _).mono ?_
          rintro e w7 ⟨rfl, hb7'⟩
          have hb7 := below_alloc _ hb6 hb6.size hb7'
          clear hb7' G1 c0 c1 c2
          go_wp2_with fail
          refine (MR1.out _).mono ?_
          rintro e w8 ⟨rfl, hb8'⟩
          have hb8 := below_trans hb7 hb7.size hb8'
          go_wp2_with fail
          go_ret
          exact ⟨rfl, hb8⟩
        | true =>
          by_cases hf : M.size + raw.size ≤ 254
          · rw [show goalOf 7 raw true M = some (M ++ raw) by unfold goalOf; rw [if_pos ⟨rfl, hx⟩]; simp only [if_true]; unfold joinOf; rw [if_pos ⟨HMY.out, hx, hf⟩]] at gl
            have f1 : (raw.size : Int) + M.size ≤ 254 := by omega
            clear hx GL HMY hf
            unfold strOf at gl
            simp only [Option.getD_some, Option.isSome_some, Option.getD_none, Option.isSome_none] at gl
            have G1 := Lib.hid gl
            clear gl
            go_wp2_with fail
            refine (G1.out _).mono ?_
            rintro e w7 ⟨rfl, hb7'⟩
            have hb7 := below_alloc _ hb6 hb6.size hb7'
            clear hb7' G1 c0 c1 c2
            go_wp2_with fail
            refine (MR1.out _).mono ?_
            rintro e w8 ⟨rfl, hb8'⟩
            have hb8 := below_trans hb7 hb7.size hb8'
            go_wp2_with fail
            go_ret
            exact ⟨rfl, hb8⟩
          · rw [show goalOf 7 raw true M = none by unfold goalOf; rw [if_pos ⟨rfl, hx⟩]; simp only [if_true]; unfold joinOf; rw [if_neg (fun h => hf h.2.2)]] at gl
            have f1 : decide ((raw.size : Int) + M.size ≤ 254) = false := by simp; omega
            clear hx GL HMY hf
            unfold strOf at gl
            simp only [Option.getD_some, Option.isSome_some, Option.getD_none, Option.isSome_none] at gl
            have G1 := Lib.hid gl
            clear gl
            go_wp2_with fail
            refine (G1.out _).mono ?_
            rintro e w7 ⟨rfl, hb7'⟩
            have hb7 := below_alloc _ hb6 hb6.size hb7'
            clear hb7' G1 c0 c1 c2
            go_wp2_with fail
            refine (MR1.out _).mono ?_
            rintro e w8 ⟨rfl, hb8'⟩
            have hb8 := below_trans hb7 hb7.size hb8'
            go_wp2_with fail
            go_ret
            exact ⟨rfl, hb8⟩
  · have hG : goalOf k t b M = none := by unfold goalOf; rw [if_neg (fun h => hk h.1)]
    rw [hG] at ga
    unfold strOf at ga
    simp only [Option.getD_none, Option.isSome_none] at ga
    have GA1 := Lib.hid ga
    have hk1 : (k != 7) = true := by simpa using hk
    clear ga hG HT84 hk
    have c0 := hP'.get 0 _
    have c1 := hP'.get 1 _
    have c2 := hP'.get 2 _
    have c3 := hP'.get 3 _
    go_wp2_with fail
    clear c0 c1 c2 c3
    refine (GA1.out _).mono ?_
    rintro e w6 ⟨rfl, hb6'⟩
    have hP6 := hP'.below hb6'
    have hb6 := below_trans hb5 hb5.size hb6'
    have c0 := hP6.get 0 _
    clear hP' hb5 hb6' hP6 GA1
    go_wp2_with fail
    go_ret
    exact ⟨rfl, hb6⟩
end Go.Proofs.Ytdekaaclheoapaa
