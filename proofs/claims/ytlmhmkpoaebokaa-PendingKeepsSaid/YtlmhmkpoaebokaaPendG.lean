/- pending.Add, pending.Expire in general. -/
import Derived.Test.YtlmhmkpoaebokaaPendE
import Derived.Outline
namespace Go.Proofs.Ytlmhmkpoaebokaa
open Go.RowKit
set_option linter.unusedVariables false
set_option linter.unusedSimpArgs false
set_option maxRecDepth 20000
/-- Entries that lie in a block below B. -/
structure EntsV (w : World) (B : Nat) (A : Option Addr) (n : Nat) (es : List EntT) : Prop where
  at_ : Ents w A es
  len : es.length = n
  low : ∀ ad, A = some ad → ad.block < B
theorem Low.cs {N : Nat} {w w' : World} {b : Nat} {vs : List Value} (h : Low N w w') (hb : b < N) (hc : Cs w b vs) : Cs w' b vs := by
  refine ⟨Nat.lt_of_lt_of_le hb h.1, fun j hj => ?_⟩
  have he := h.2 b hb
  exact ⟨(World.cell?_of_block (w := w) he).trans (hc.2 j hj).1, (World.frozen?_of_block (w := w) he).trans (hc.2 j hj).2⟩
theorem Mid.of_below {N : Nat} {w w' : World} (h : Below w.heap.size w w') : Mid N w w' := ⟨h.size, fun q _ hq => h.block q hq⟩
def errP (k : Int) : Value := .iface 103 (.int .i64 k)
/-- Add's answer. -/
def AddR (es : List EntT) (e : EntT) (w : World) (r : Ending) (w' : World) : Prop :=
  (16 ≤ es.length ∧ r = .returned (.tuple #[.slice none 0 0, errP 9]) ∧ Below w.heap.size w w') ∨
  (es.length < 16 ∧ (es.any fun x => x.1 == e.1) = true ∧ r = .returned (.tuple #[.slice none 0 0, errP 7]) ∧ Below w.heap.size w w') ∨
  (es.length < 16 ∧ (es.any fun x => x.1 == e.1) = false ∧ ∃ v, r = .returned (.tuple #[v, .nilIface]) ∧ OBM 19 w.heap.size w v (es.length + 1) (flatE (es ++ [e])) w')
theorem filter_none {es : List EntT} {q : EntT → Bool} (h : es.any q = false) : es.filter q = [] ∧ es.filter (fun e => !q e) = es := by
  rw [List.any_eq_false] at h
  constructor
  · rw [List.filter_eq_nil_iff]; exact h
  · rw [List.filter_eq_self]; intro a ha; have := h a ha; simpa using this
theorem filter_some {es : List EntT} {q : EntT → Bool} (h : es.any q = true) : 0 < (es.filter q).length := by
  rw [List.any_eq_true] at h
  obtain ⟨a, ha, hq⟩ := h
  exact List.length_pos_of_mem (List.mem_filter.2 ⟨ha, hq⟩)
/-- A place's entry fulfils it. -/
def atE (q : EntT → Bool) (es : List EntT) (i : Nat) : Bool := match es[i]? with | some e => q e | none => false
theorem pick_at (q : EntT → Bool) (es : List EntT) : pickE (atE q es) es = es.filter q := pickE_filter q _ es (fun i e he => by unfold atE; rw [he])
theorem pick_not (q : EntT → Bool) (es : List EntT) : pickE (fun i => !atE q es i) es = es.filter (fun e => !q e) := pickE_filter (fun e => !q e) _ es (fun i e he => by unfold atE; rw [he])
set_option maxHeartbeats 6400000 in
theorem add_any (A : Option Addr) (n c : Nat) (es : List EntT) (e : EntT) (w : World) (h : EntsV w w.heap.size A n es) (hn : n ≤ 1000) :
    Calls Try.prog 28 #[.slice A n c, entA e] w (AddR es e w) := by
  obtain ⟨i0, hi, hz0, hz1, hz2⟩ := info_parts4 ent_zero
  obtain ⟨AR, hAR⟩ : ∃ R, R = AddR es e w := ⟨_, rfl⟩
  rw [← hAR]
  have HAR := Lib.hid hAR
  have hlen := h.len
  have HV := Lib.hid h
  have HL := Lib.hid hlen
  have HN := Lib.hid hn
  have SP := fun (w1 : World) (g0 : Nat) => split_add g0 A n c es (atE (fun x => x.1 == e.1) es) w.heap.size (fun _ wx => Cs wx g0 (entCells e)) w1
  have OW : Hid (∀ w, Calls Try.prog 44 #[entA e] w fun r w' => r = .returned (entA e) ∧ Below w.heap.size w w') := Lib.hid (fun w => own_any e w)
  have CE := Lib.hid (entCells_one e)
  have HSP := Lib.hid SP
  clear h hAR SP hlen
  obtain ⟨e0, e1, e2, e3, e4, e5⟩ := e
  unfold entA entCells at OW ⊢
  unfold entCells at HSP
  simp only at OW HSP ⊢
  have hC := Cs.new w #[.int .u16 e0, .int .u16 0, .bool false, .int .i64 0, .bool false, .bool false, .bool false, .bool false, .int .i64 0, .string e1, .int .u16 e2, .slice none 0 0, .slice none 0 0, .slice none 0 0, .int .i64 0, .string e3, .int .i64 e4, .bool false, .int .i64 e5] 74 [.int .u16 e0, .int .u16 0, .bool false, .int .i64 0, .bool false, .bool false, .bool false, .bool false, .int .i64 0, .string e1, .int .u16 e2, .slice none 0 0, .slice none 0 0, .slice none 0 0, .int .i64 0, .string e3, .int .i64 e4, .bool false, .int .i64 e5]
  have hB := (Below.refl w.heap.size w).alloc (Nat.le_refl _) (.cells #[.int .u16 e0, .int .u16 0, .bool false, .int .i64 0, .bool false, .bool false, .bool false, .bool false, .int .i64 0, .string e1, .int .u16 e2, .slice none 0 0, .slice none 0 0, .slice none 0 0, .int .i64 0, .string e3, .int .i64 e4, .bool false, .int .i64 e5] 74)
  have H0 := Lib.hid (And.intro hC hB)
  have HS0 := Lib.hid (show (w.alloc (.cells #[.int .u16 e0, .int .u16 0, .bool false, .int .i64 0, .bool false, .bool false, .bool false, .bool false, .int .i64 0, .string e1, .int .u16 e2, .slice none 0 0, .slice none 0 0, .slice none 0 0, .int .i64 0, .string e3, .int .i64 e4, .bool false, .int .i64 e5] 74)).heap.size = w.heap.size + 1 by simp)
  clear hC hB
  go_enter Try.func28, Try.ntmps28
  by_cases hfull : 16 ≤ n
  · have h16 : (16 : Int) ≤ n := by omega
    have h16' : ¬ (n : Int) < 16 := by omega
    go_wp2_with fail
    rw [HAR.out]
    exact .inl ⟨by rw [HL.out]; exact hfull, rfl, H0.out.2⟩
  · have h16 : (n : Int) < 16 := by omega
    have h16' : ¬ (16 : Int) ≤ n := by omega
    have HF := Lib.hid hfull
    clear hfull
    go_upto_region 3 with fail
    generalize w.alloc (.cells #[.int .u16 e0, .int .u16 0, .bool false, .int .i64 0, .bool false, .bool false, .bool false, .bool false, .int .i64 0, .string e1, .int .u16 e2, .slice none 0 0, .slice none 0 0, .slice none 0 0, .int .i64 0, .string e3, .int .i64 e4, .bool false, .int .i64 e5] 74) = w1 at *
    obtain ⟨g, hg⟩ : ∃ g, g = w.heap.size := ⟨_, rfl⟩
    rw [← hg] at H0 ⊢
    have HG := Lib.hid hg
    clear hg
    go_wp2_with fail
    refine (HSP.out w1 g (HV.out.at_.below (by rw [← HG.out]; exact H0.out.2)) HL.out (by have := HN.out; omega) HV.out.low (by have := HS0.out; omega) H0.out.1 (fun k wa wb ha hb => hb.cs (by have := HS0.out; have := HG.out; omega) ha) ?_).mono ?_
    · intro k x wx hx hI hbx hsx
      refine (add1_any x g e0 wx hI.lt (hI.get 0 _)).mono ?_
      rintro r wy ⟨rfl, hb⟩
      refine ⟨by unfold atE; rw [hx], hI.below hb, hb.mono (by have := HS0.out; omega), Mid.of_below hb⟩
    rintro r w2 ⟨v1, v2, rfl, ho1, ho2, hw1, hw2, hd, hI⟩
    rw [pick_at] at ho1
    rw [pick_not] at ho2
    have hB1 : Below w.heap.size w w1 := by rw [← HG.out]; exact H0.out.2
    have ho1 := ho1.out (Nat.le_refl _) hB1
    have ho2 := ho2.out (Nat.le_refl _) hB1
    obtain ⟨V1, C1, rfl, hs1, -, -⟩ := ho1.slice
    obtain ⟨V2, C2, rfl, -, -, -⟩ := ho2.slice
    cases han : es.any (fun x => x.1 == e0) with
    | true =>
      have hpos := filter_some han
      have HB2 := Lib.hid ho1.bel
      have HAN := Lib.hid han
      have HO := Lib.hid ho1
      clear ho1 ho2 hw1 hw2 hd hI hB1 han
      generalize (es.filter fun x => x.1 == e0).length = m at *
      have hm : (0 : Int) < m := by omega
      go_wp2_with fail
      rw [HAR.out]
      exact .inr (.inl ⟨by rw [HL.out]; have := HF.out; omega, HAN.out, rfl, HB2.out⟩)
    | false =>
      obtain ⟨hf1, hf2⟩ := filter_none han
      rw [hf1, List.length_nil]
      rw [hf2, HL.out] at ho2 ⊢
      have HO := Lib.hid ho2
      have HR := Lib.hid hI.range
      have HAN := Lib.hid han
      have HGW := Lib.hid hI.lt
      clear ho1 ho2 hw1 hw2 hd hI hB1 han hf1 hf2
      go_wp2_with (first | refine wpList_load_mid rfl 74 _ rfl g 0 rfl _ _ HR.out Try.underlying74 rfl (by kernel_rfl) ?_)
      refine (OW.out _).mono ?_
      rintro r w3 ⟨rfl, hb3⟩
      have ho := Lib.hid ((HO.out.keep hb3 (Nat.le_refl _)).alloc (.cells #[.int .u16 e0, .int .u16 0, .bool false, .int .i64 0, .bool false, .bool false, .bool false, .bool false, .int .i64 0, .string e1, .int .u16 e2, .slice none 0 0, .slice none 0 0, .slice none 0 0, .int .i64 0, .string e3, .int .i64 e4, .bool false, .int .i64 e5] 74))
      have hS : Hid (Src Try.prog 19 68 (.slice (some ⟨w3.heap.size, 0, none⟩) 1 1) 1 [.int .u16 e0, .int .u16 0, .bool false, .int .i64 0, .bool false, .bool false, .bool false, .bool false, .int .i64 0, .string e1, .int .u16 e2, .slice none 0 0, .slice none 0 0, .slice none 0 0, .int .i64 0, .string e3, .int .i64 e4, .bool false, .int .i64 e5] (w3.alloc (.cells #[.int .u16 e0, .int .u16 0, .bool false, .int .i64 0, .bool false, .bool false, .bool false, .bool false, .int .i64 0, .string e1, .int .u16 e2, .slice none 0 0, .slice none 0 0, .slice none 0 0, .int .i64 0, .string e3, .int .i64 e4, .bool false, .int .i64 e5] 74))) := by
        refine Lib.hid (Src.ofSlice _ Try.underlying68 _ 1 1 _ rfl ?_ CE.out)
        exact news_at w3 #[.int .u16 e0, .int .u16 0, .bool false, .int .i64 0, .bool false, .bool false, .bool false, .bool false, .int .i64 0, .string e1, .int .u16 e2, .slice none 0 0, .slice none 0 0, .slice none 0 0, .int .i64 0, .string e3, .int .i64 e4, .bool false, .int .i64 e5] _
      clear hb3
      go_wp2_with (first | (at_builtin; go_loud (refine wpList_append_obm rfl _ _ 68 68 rfl 74 i0 _ 184 Try.underlying68 hi hz0 hz1 hz2 rfl ho.out rfl rfl hS.out rfl (by have := HN.out; unfold maxLen; omega) (by have := HN.out; omega) ?_)))
      intro v' w' p1 p2 p3 p4
      have P1 := Lib.hid p1
      clear p1 p2 p3 p4 ho hS
      go_wp2_with fail
      rw [HAR.out]
      refine .inr (.inr ⟨by rw [HL.out]; have := HF.out; omega, HAN.out, v', rfl, ?_⟩)
      rw [flatE_snoc, HL.out]
      exact P1.out
set_option maxHeartbeats 6400000 in
theorem expire_any (A : Option Addr) (n c : Nat) (es : List EntT) (now : Int) (w : World) (h : EntsV w w.heap.size A n es) (hn : n ≤ 1000) :
    Calls Try.prog 30 #[.slice A n c, .int .i64 now] w fun r w' => ∃ v1 v2, r = .returned (.tuple #[v1, v2]) ∧ OBM 19 w.heap.size w v1 (es.filter fun x => decide (x.2.2.2.2.2 ≤ now)).length (flatE (es.filter fun x => decide (x.2.2.2.2.2 ≤ now))) w' ∧
      OBM 19 w.heap.size w v2 (es.filter fun x => !decide (x.2.2.2.2.2 ≤ now)).length (flatE (es.filter fun x => !decide (x.2.2.2.2.2 ≤ now))) w' := by
  have hlen := h.len
  have HV := Lib.hid h
  have HL := Lib.hid hlen
  have HN := Lib.hid hn
  have HSP := Lib.hid (fun (w1 : World) (g0 : Nat) => split_exp g0 A n c es (atE (fun x => decide (x.2.2.2.2.2 ≤ now)) es) w.heap.size (fun _ wx => Cs wx g0 [.int .i64 now]) w1)
  clear h hlen hn
  have hC := Cs.new w #[.int .i64 now] 3 [.int .i64 now]
  have hB := (Below.refl w.heap.size w).alloc (Nat.le_refl _) (.cells #[.int .i64 now] 3)
  have H0 := Lib.hid (And.intro hC hB)
  have HS0 := Lib.hid (show (w.alloc (.cells #[.int .i64 now] 3)).heap.size = w.heap.size + 1 by simp)
  clear hC hB
  go_enter Try.func30, Try.ntmps30
  go_upto_region 1 with fail
  generalize w.alloc (.cells #[.int .i64 now] 3) = w1 at *
  obtain ⟨g, hg⟩ : ∃ g, g = w.heap.size := ⟨_, rfl⟩
  rw [← hg] at H0 ⊢
  have HG := Lib.hid hg
  clear hg
  go_wp2_with fail
  refine (HSP.out w1 g (HV.out.at_.below (by rw [← HG.out]; exact H0.out.2)) HL.out (by have := HN.out; omega) HV.out.low (by have := HS0.out; omega) H0.out.1 (fun k wa wb ha hb => hb.cs (by have := HS0.out; have := HG.out; omega) ha) ?_).mono ?_
  · intro k x wx hx hI hbx hsx
    refine (exp1_any x g now wx hI.lt (hI.get 0 _)).mono ?_
    rintro r wy ⟨rfl, hb⟩
    refine ⟨by unfold atE; rw [hx], hI.below hb, hb.mono (by have := HS0.out; omega), Mid.of_below hb⟩
  rintro r w2 ⟨v1, v2, rfl, ho1, ho2, hw1, hw2, hd, hI⟩
  rw [pick_at] at ho1
  rw [pick_not] at ho2
  have hB1 : Below w.heap.size w w1 := by rw [← HG.out]; exact H0.out.2
  have HO1 := Lib.hid (ho1.out (Nat.le_refl _) hB1)
  have HO2 := Lib.hid (ho2.out (Nat.le_refl _) hB1)
  clear ho1 ho2 hw1 hw2 hd hI hB1
  go_wp2_with fail
  exact bodyPost_ret (v := .tuple #[v1, v2]) (by simp [results, Try.results30, go_sem]) rfl ⟨v1, v2, rfl, by rw [HG.out] at *; exact HO1.out, by rw [HG.out] at *; exact HO2.out⟩
end Go.Proofs.Ytlmhmkpoaebokaa
