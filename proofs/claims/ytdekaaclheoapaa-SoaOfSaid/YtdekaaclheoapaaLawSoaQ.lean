/- The walk of SoaOf. -/
import Derived.Test.YtdekaaclheoapaaLawSoaO
namespace Go.Proofs.Ytdekaaclheoapaa
open Go.RowKit
set_option linter.unusedVariables false
set_option maxRecDepth 20000

theorem soaV_agg (a b t : List UInt8) : ∃ a1 a2 a3 a4 a5 a6 a7, soaV a b t = .agg #[.string a1, .string a2, .int .u32 a3, .int .u32 a4, .int .u32 a5, .int .u32 a6, .int .u32 a7] := ⟨_, _, _, _, _, _, _, rfl⟩
set_option maxHeartbeats 800000 in
theorem make7_any (A : Option Addr) (n c : Nat) (zs : List Int) (w : World) (hA : Sl w w.heap.size 1 A n (zs.map (Value.int .u8))) (hz : ∀ z ∈ zs, 0 ≤ z ∧ z < 256) (hn : n ≤ 140737488355328) (s r y e : Nat) (hs : s < 4294967296) (hr : r < 256) (hy : y < 256) (he : e < 256) :
    Calls Try.prog 22 #[.slice A n c, .int .u32 s, .int .u8 r, .int .u8 y, .int .u8 e] w fun ex w' => ex = .returned (sv (dataL (nameZ zs) (nameZ zs) [s, r, y, e, 1])) ∧ Below w.heap.size w w' := by
  have NA := Lib.hid (name_any A n c zs w hA hz (by unfold maxLen; omega))
  have lN := nameZ_len zs hz
  generalize nameZ zs = X at *
  obtain ⟨N, hN⟩ : ∃ N, N = ByteArray.mk X.toArray := ⟨_, rfl⟩
  have nX : N.data.toList = X := by rw [hN, mk_toList]
  have sN : N.size ≤ 84 := by rw [hN, mk_size]; exact lN
  unfold sv at NA
  rw [← hN] at NA
  have i1 : IntKind.u32.wrap (r : Int) = r := by rw [IntKind.wrap_u32']; omega
  have i2 : IntKind.u32.wrap (y : Int) = y := by rw [IntKind.wrap_u32']; omega
  have i3 : IntKind.u32.wrap (e : Int) = e := by rw [IntKind.wrap_u32']; omega
  have q1 : ¬ 9223372036854775807 < N.size + 1 := by omega
  have q2 : ¬ 9223372036854775807 < N.size + 1 + N.size := by omega
  have q3 : ¬ 9223372036854775807 < N.size + 1 + N.size + 1 := by omega
  have q4 : ¬ 9223372036854775807 < N.size + 1 + N.size + 1 + 20 := by omega
  clear hN hA hz lN
  go_enter Try.func22, Try.ntmps22
  go_wp2_with fail
  refine NA.out.mono ?_
  rintro ex w1 ⟨rfl, hb1⟩
  clear NA
  go_wp2_with fail
  refine (put32_any none 0 0 [] _ 5 5 [s, r, y, e, 1] _ (Sl.nil _ _ _ _) (fun _ => ⟨rfl, rfl⟩) (Sl.fresh _ _ _ _ _ rfl rfl) (by simp; omega) (by omega)).mono ?_
  rintro ex w3 ⟨g, rfl, hown, hb3⟩
  have hB3 := below_alloc _ hb1 hb1.size hb3
  have hcv := run_string_own (P := Try.prog) w3 22 9 5 _ _ _ _ _ Try.underlying22 Try.underlying5 Try.underlying9 hown
  have hlT : ([] ++ List.flatMap b32 [s, r, y, e, 1]).length = 20 := by rw [List.nil_append, b32_len]; rfl
  obtain ⟨L, hL⟩ : ∃ L, [] ++ List.flatMap b32 [s, r, y, e, 1] = L := ⟨_, rfl⟩
  rw [hL] at hcv hlT
  obtain ⟨T, hT⟩ : ∃ T, T = (ByteArray.mk L.toArray) := ⟨_, rfl⟩
  rw [← hT] at hcv
  have sT : T.size = 20 := by rw [hT, mk_size]; exact hlT
  have hfin : Value.string (N ++ ⟨#[0]⟩ ++ N ++ ⟨#[0]⟩ ++ T) = sv (dataL X X [s, r, y, e, 1]) := by
    rw [hT, ← hL, sv_append]
    unfold sv dataL
    simp [nX]
  have HF := Lib.hid hfin
  have q5 : ¬ 9223372036854775807 < (N ++ ⟨#[0]⟩ ++ N ++ ⟨#[0]⟩ : ByteArray).size + T.size := by simp only [ByteArray.size_append]; show ¬ _ < N.size + 1 + N.size + 1 + T.size; omega
  have q6 : ¬ 9223372036854775807 < N.size + 1 + N.size + 1 + T.size := by omega
  clear hown hT hL hlT hfin sT nX
  go_wp2_with fail
  go_ret
  exact ⟨by rw [← HF.out]; rfl, hB3⟩
set_option maxHeartbeats 6400000 in
theorem soaOf_walk (w : World) (nm : ByteArray) (hnm : nm.size ≤ 140737488351232) (t : Int) (htw : (Lit.int .u16 t).wf = true) (ttl : Int) (httl : (Lit.int .u32 ttl).wf = true) (d : ByteArray) (hd : d.size ≤ 140737488351232)
    (A : Option Addr) (n c : Nat) (zs : List Int) (hV : SlView w A n c (zs.map (Value.int .u8))) (hl : zs.length = n) (hzw : ∀ z ∈ zs, (Lit.int .u8 z).wf = true) (hc : c ≤ 140737488351232) (s : Int) (hsw : (Lit.int .u32 s).wf = true) :
    Calls Try.prog 5 #[.agg #[.string nm, .int .u16 t, .int .u32 ttl, .string d], .slice A n c, .int .u32 s] w fun e w' => e = .returned (.bool true) ∧ Below w.heap.size w w' := by
  have hz : ∀ z ∈ zs, 0 ≤ z ∧ z < 256 := fun z h => by have := bounds_u8 (hzw z h); omega
  have hA : Sl w w.heap.size 1 A n (zs.map (Value.int .u8)) := hV.sl
  have hnc := hV.le
  obtain ⟨s, rfl⟩ : ∃ k : Nat, s = k := ⟨s.toNat, by have := bounds_u32 hsw; omega⟩
  have hs32 : s < 4294967296 := by have := bounds_u32 hsw; omega
  have MK := Lib.hid (fun (w' : World) (h : Sl w' w'.heap.size 1 A n (zs.map (Value.int .u8))) => make7_any A n c zs w' h hz (by omega) s 1 2 3 hs32 (by decide) (by decide) (by decide))
  have mX := nameZ_may zs hz
  have lX := nameZ_len zs hz
  generalize nameZ zs = X at *
  have lD : (dataL X X [s, 1, 2, 3, 1]).length ≤ 200 := by rw [dataL_len]; simp; omega
  have hyes := isSoa_data (ns := [s, 1, 2, 3, 1]) mX mX rfl
  have hval := fun a' b' t' => soaV_data (a' := a') (b' := b') (t := t') mX mX hs32 (show 1 < 4294967296 by decide) (show 2 < 4294967296 by decide) (show 3 < 4294967296 by decide) (show 1 < 4294967296 by decide)
  obtain ⟨D, hD⟩ : ∃ D, D = ByteArray.mk (dataL X X [s, 1, 2, 3, 1]).toArray := ⟨_, rfl⟩
  have hDl : D.data.toList = dataL X X [s, 1, 2, 3, 1] := by rw [hD, mk_toList]
  have sD : D.size ≤ 200 := by rw [hD, mk_size]; exact lD
  rw [← hDl] at hyes hval
  unfold sv at MK
  rw [← hD] at MK
  have OS := Lib.hid (fun w => sof_soa ⟨#[]⟩ D 0 w (by omega))
  have OT := Lib.hid (fun w => sof_other ⟨#[]⟩ D 16 0 w (by decide))
  have OR := Lib.hid (fun w h => sof_other nm d t ttl w h)
  have OR6 := Lib.hid (fun w => sof_soa nm d ttl w (by omega))
  have PR := Lib.hid (fun w => parse_any d w (by omega))
  have HY := Lib.hid hyes
  have HV := Lib.hid hval
  obtain ⟨x1, hx1⟩ : ∃ x, sv X = .string x := ⟨_, rfl⟩
  rw [hx1] at HV
  clear hz hzw hV hsw hl hyes hval hD hDl lD lX mX hs32 httl htw hx1
  have hsplit : ∀ (P1 : Nat) (W : World), Cs W P1 [.string nm, .int .u16 t, .int .u32 ttl, .string d] → W.heap.size ≤ W.heap.size → True := fun _ _ _ _ => trivial
  clear hsplit
  go_enter Try.func5, Try.ntmps5
  go_wp2_with fail
  have hR := Cs.new w #[.string nm, .int .u16 t, .int .u32 ttl, .string d] 40 [.string nm, .int .u16 t, .int .u32 ttl, .string d]
  have hbW := (Below.refl w.heap.size w).alloc (Nat.le_refl _) (.cells #[.string nm, .int .u16 t, .int .u32 ttl, .string d] 40)
  generalize hW : w.alloc (.cells #[.string nm, .int .u16 t, .int .u32 ttl, .string d] 40) = W at *
  clear hW
  refine (awake07_any _).mono ?_
  rintro e w1 ⟨rfl, hb1'⟩
  have hR1 := hR.below hb1'
  have hb1 := below_trans hbW hbW.size hb1'
  clear hR hbW hb1'
  by_cases h6 : t = 6
  · subst h6
    have c0 := hR1.get 0 _
    have c1 := hR1.get 1 _
    have c2 := hR1.get 2 _
    have c3 := hR1.get 3 _
    go_wp2_with fail
    clear c0 c1 c2 c3
    refine (OR6.out _).mono ?_
    rintro e w2 ⟨hb2', ⟨a, b, x, hy, rfl⟩ | ⟨hno, rfl⟩⟩
    · obtain ⟨a1, a2, a3, a4, a5, a6, a7, hval⟩ := soaV_agg a b x
      rw [hval]
      have HVV := Lib.hid hval
      have HYY := Lib.hid hy
      clear hval hy
      have hR2 := hR1.below hb2'
      have hb2 := below_trans hb1 hb1.size hb2'
      clear hR1 hb1 hb2'
      have hS := Cs.new w2 #[.string a1, .string a2, .int .u32 a3, .int .u32 a4, .int .u32 a5, .int .u32 a6, .int .u32 a7] 28 [.string a1, .string a2, .int .u32 a3, .int .u32 a4, .int .u32 a5, .int .u32 a6, .int .u32 a7]
      have hR3 := hR2.alloc (.cells #[.string a1, .string a2, .int .u32 a3, .int .u32 a4, .int .u32 a5, .int .u32 a6, .int .u32 a7] 28)
      have hb3 := hb2.alloc hb2.size (.cells #[.string a1, .string a2, .int .u32 a3, .int .u32 a4, .int .u32 a5, .int .u32 a6, .int .u32 a7] 28)
      have hlt := hR2.lt
      have c0 := hR2.get 0 _
      have c1 := hR2.get 1 _
      have c2 := hR2.get 2 _
      have c3 := hR2.get 3 _
      go_wp2_with fail
      clear c0 c1 c2 c3
      generalize hW3 : w2.alloc (.cells #[.string a1, .string a2, .int .u32 a3, .int .u32 a4, .int .u32 a5, .int .u32 a6, .int .u32 a7] 28) = W3 at *
      generalize hP7 : w2.heap.size = P7 at *
      clear hW3 hP7 hR2 hb2 hlt
      refine (PR.out _).mono ?_
      rintro e w4 ⟨hb4', ⟨a', b', x', hy', rfl⟩ | ⟨hno, -⟩⟩
      rotate_left
      · exact absurd HYY.out (hno _ _ _)
      obtain ⟨rfl, rfl, rfl⟩ := HYY.out.one hy'
      rw [HVV.out]
      clear hy' HVV HYY
      have hR4 := hR3.below hb4'
      have hS4 := hS.below hb4'
      have hb4 := below_trans hb3 hb3.size hb4'
      clear hR3 hS hb3 hb4'
      have hT := Cs.new w4 #[.string a1, .string a2, .int .u32 a3, .int .u32 a4, .int .u32 a5, .int .u32 a6, .int .u32 a7] 28 [.string a1, .string a2, .int .u32 a3, .int .u32 a4, .int .u32 a5, .int .u32 a6, .int .u32 a7]
      have hR5 := hR4.alloc (.cells #[.string a1, .string a2, .int .u32 a3, .int .u32 a4, .int .u32 a5, .int .u32 a6, .int .u32 a7] 28)
      have hS5 := hS4.alloc (.cells #[.string a1, .string a2, .int .u32 a3, .int .u32 a4, .int .u32 a5, .int .u32 a6, .int .u32 a7] 28)
      have hb5 := hb4.alloc hb4.size (.cells #[.string a1, .string a2, .int .u32 a3, .int .u32 a4, .int .u32 a5, .int .u32 a6, .int .u32 a7] 28)
      have hlt := hR4.lt
      have hlt2 := hS4.lt
      have c0 := hR5.get 0 _
      have c1 := hR5.get 1 _
      have c2 := hR5.get 2 _
      have c3 := hR5.get 3 _
      have s0 := hS5.get 0 _
      have s1 := hS5.get 1 _
      have s2 := hS5.get 2 _
      have s3 := hS5.get 3 _
      have s4 := hS5.get 4 _
      have s5 := hS5.get 5 _
      have s6 := hS5.get 6 _
      go_wp2_with fail
      clear c0 c1 c2 c3
      clear s0 s1 s2 s3 s4 s5 s6
      generalize hW5 : w4.alloc (.cells #[.string a1, .string a2, .int .u32 a3, .int .u32 a4, .int .u32 a5, .int .u32 a6, .int .u32 a7] 28) = W5 at *
      generalize hP9 : w4.heap.size = P9 at *
      clear hW5 hP9 hR4 hS4 hb4 hlt hlt2 hR5 hS5 hT
      refine (MK.out _ ((hA.below hb5).more hb5.size)).mono ?_
      rintro e w6 ⟨rfl, hb6'⟩
      have hb6 := below_trans hb5 hb5.size hb6'
      clear hb5 hb6'
      go_wp2_with fail
      refine (OS.out _).mono ?_
      rintro e w7 ⟨hb7', ⟨a', b', x', hy, rfl⟩ | ⟨hno, -⟩⟩
      rotate_left
      · exact absurd HY.out (hno _ _ _)
      have hb7 := below_trans hb6 hb6.size hb7'
      clear hb6 hb7'
      rw [HV.out _ _ _ hy]
      clear hy
      go_wp2_with fail
      have hU := Cs.new w7 #[.string x1, .string x1, .int .u32 s, .int .u32 1, .int .u32 2, .int .u32 3, .int .u32 1] 28 [.string x1, .string x1, .int .u32 s, .int .u32 1, .int .u32 2, .int .u32 3, .int .u32 1]
      have hb8 := hb7.alloc hb7.size (.cells #[.string x1, .string x1, .int .u32 s, .int .u32 1, .int .u32 2, .int .u32 3, .int .u32 1] 28)
      generalize hW8 : w7.alloc (.cells #[.string x1, .string x1, .int .u32 s, .int .u32 1, .int .u32 2, .int .u32 3, .int .u32 1] 28) = W8 at *
      generalize hP12 : w7.heap.size = P12 at *
      clear hW8 hP12 hb7
      refine (MK.out _ ((hA.below hb8).more hb8.size)).mono ?_
      rintro e w9 ⟨rfl, hb9'⟩
      have hU9 := hU.below hb9'
      have hb9 := below_trans hb8 hb8.size hb9'
      clear hb8 hb9' hU
      go_wp2_with fail
      refine (OT.out _).mono ?_
      rintro e w10 ⟨rfl, hb10'⟩
      have hU10 := hU9.below hb10'
      have hb10 := below_trans hb9 hb9.size hb10'
      clear hb9 hb10' hU9
      have hU11 := hU10.alloc (.cells #[.string ⟨#[]⟩, .string ⟨#[]⟩, .int .u32 0, .int .u32 0, .int .u32 0, .int .u32 0, .int .u32 0] 28)
      have hb11 := hb10.alloc hb10.size (.cells #[.string ⟨#[]⟩, .string ⟨#[]⟩, .int .u32 0, .int .u32 0, .int .u32 0, .int .u32 0, .int .u32 0] 28)
      unfold soa0
      have c0 := hU10.get 0 _
      have c1 := hU10.get 1 _
      have c2 := hU10.get 2 _
      have c3 := hU10.get 3 _
      have c4 := hU10.get 4 _
      have c5 := hU10.get 5 _
      have c6 := hU10.get 6 _
      have hlt := hU10.lt
      clear hU10 hU11
      go_wp2_with fail
      go_ret
      exact ⟨rfl, hb11⟩
    · have HNN := Lib.hid hno
      clear hno
      unfold soa0
      have hR2 := hR1.below hb2'
      have hb2 := below_trans hb1 hb1.size hb2'
      clear hR1 hb1 hb2'
      have hS := Cs.new w2 #[.string ⟨#[]⟩, .string ⟨#[]⟩, .int .u32 0, .int .u32 0, .int .u32 0, .int .u32 0, .int .u32 0] 28 [.string ⟨#[]⟩, .string ⟨#[]⟩, .int .u32 0, .int .u32 0, .int .u32 0, .int .u32 0, .int .u32 0]
      have hR3 := hR2.alloc (.cells #[.string ⟨#[]⟩, .string ⟨#[]⟩, .int .u32 0, .int .u32 0, .int .u32 0, .int .u32 0, .int .u32 0] 28)
      have hb3 := hb2.alloc hb2.size (.cells #[.string ⟨#[]⟩, .string ⟨#[]⟩, .int .u32 0, .int .u32 0, .int .u32 0, .int .u32 0, .int .u32 0] 28)
      have hlt := hR2.lt
      have c0 := hR2.get 0 _
      have c1 := hR2.get 1 _
      have c2 := hR2.get 2 _
      have c3 := hR2.get 3 _
      go_wp2_with fail
      clear c0 c1 c2 c3
      generalize hW3 : w2.alloc (.cells #[.string ⟨#[]⟩, .string ⟨#[]⟩, .int .u32 0, .int .u32 0, .int .u32 0, .int .u32 0, .int .u32 0] 28) = W3 at *
      generalize hP7 : w2.heap.size = P7 at *
      clear hW3 hP7 hR2 hb2 hlt
      refine (PR.out _).mono ?_
      rintro e w4 ⟨hb4', ⟨a', b', x', hy', rfl⟩ | ⟨-, rfl⟩⟩
      · exact absurd hy' (HNN.out _ _ _)
      clear HNN
      unfold soa0
      have hR4 := hR3.below hb4'
      have hS4 := hS.below hb4'
      have hb4 := below_trans hb3 hb3.size hb4'
      clear hR3 hS hb3 hb4'
      have hT := Cs.new w4 #[.string ⟨#[]⟩, .string ⟨#[]⟩, .int .u32 0, .int .u32 0, .int .u32 0, .int .u32 0, .int .u32 0] 28 [.string ⟨#[]⟩, .string ⟨#[]⟩, .int .u32 0, .int .u32 0, .int .u32 0, .int .u32 0, .int .u32 0]
      have hR5 := hR4.alloc (.cells #[.string ⟨#[]⟩, .string ⟨#[]⟩, .int .u32 0, .int .u32 0, .int .u32 0, .int .u32 0, .int .u32 0] 28)
      have hS5 := hS4.alloc (.cells #[.string ⟨#[]⟩, .string ⟨#[]⟩, .int .u32 0, .int .u32 0, .int .u32 0, .int .u32 0, .int .u32 0] 28)
      have hb5 := hb4.alloc hb4.size (.cells #[.string ⟨#[]⟩, .string ⟨#[]⟩, .int .u32 0, .int .u32 0, .int .u32 0, .int .u32 0, .int .u32 0] 28)
      have hlt := hR4.lt
      have hlt2 := hS4.lt
      have c0 := hR5.get 0 _
      have c1 := hR5.get 1 _
      have c2 := hR5.get 2 _
      have c3 := hR5.get 3 _
      have s0 := hS5.get 0 _
      have s1 := hS5.get 1 _
      have s2 := hS5.get 2 _
      have s3 := hS5.get 3 _
      have s4 := hS5.get 4 _
      have s5 := hS5.get 5 _
      have s6 := hS5.get 6 _
      go_wp2_with fail
      clear c0 c1 c2 c3
      clear s0 s1 s2 s3 s4 s5 s6
      generalize hW5 : w4.alloc (.cells #[.string ⟨#[]⟩, .string ⟨#[]⟩, .int .u32 0, .int .u32 0, .int .u32 0, .int .u32 0, .int .u32 0] 28) = W5 at *
      generalize hP9 : w4.heap.size = P9 at *
      clear hW5 hP9 hR4 hS4 hb4 hlt hlt2 hR5 hS5 hT
      refine (MK.out _ ((hA.below hb5).more hb5.size)).mono ?_
      rintro e w6 ⟨rfl, hb6'⟩
      have hb6 := below_trans hb5 hb5.size hb6'
      clear hb5 hb6'
      go_wp2_with fail
      refine (OS.out _).mono ?_
      rintro e w7 ⟨hb7', ⟨a', b', x', hy, rfl⟩ | ⟨hno, -⟩⟩
      rotate_left
      · exact absurd HY.out (hno _ _ _)
      have hb7 := below_trans hb6 hb6.size hb7'
      clear hb6 hb7'
      rw [HV.out _ _ _ hy]
      clear hy
      go_wp2_with fail
      have hU := Cs.new w7 #[.string x1, .string x1, .int .u32 s, .int .u32 1, .int .u32 2, .int .u32 3, .int .u32 1] 28 [.string x1, .string x1, .int .u32 s, .int .u32 1, .int .u32 2, .int .u32 3, .int .u32 1]
      have hb8 := hb7.alloc hb7.size (.cells #[.string x1, .string x1, .int .u32 s, .int .u32 1, .int .u32 2, .int .u32 3, .int .u32 1] 28)
      generalize hW8 : w7.alloc (.cells #[.string x1, .string x1, .int .u32 s, .int .u32 1, .int .u32 2, .int .u32 3, .int .u32 1] 28) = W8 at *
      generalize hP12 : w7.heap.size = P12 at *
      clear hW8 hP12 hb7
      refine (MK.out _ ((hA.below hb8).more hb8.size)).mono ?_
      rintro e w9 ⟨rfl, hb9'⟩
      have hU9 := hU.below hb9'
      have hb9 := below_trans hb8 hb8.size hb9'
      clear hb8 hb9' hU
      go_wp2_with fail
      refine (OT.out _).mono ?_
      rintro e w10 ⟨rfl, hb10'⟩
      have hU10 := hU9.below hb10'
      have hb10 := below_trans hb9 hb9.size hb10'
      clear hb9 hb10' hU9
      have hU11 := hU10.alloc (.cells #[.string ⟨#[]⟩, .string ⟨#[]⟩, .int .u32 0, .int .u32 0, .int .u32 0, .int .u32 0, .int .u32 0] 28)
      have hb11 := hb10.alloc hb10.size (.cells #[.string ⟨#[]⟩, .string ⟨#[]⟩, .int .u32 0, .int .u32 0, .int .u32 0, .int .u32 0, .int .u32 0] 28)
      unfold soa0
      have c0 := hU10.get 0 _
      have c1 := hU10.get 1 _
      have c2 := hU10.get 2 _
      have c3 := hU10.get 3 _
      have c4 := hU10.get 4 _
      have c5 := hU10.get 5 _
      have c6 := hU10.get 6 _
      have hlt := hU10.lt
      clear hU10 hU11
      go_wp2_with fail
      go_ret
      exact ⟨rfl, hb11⟩
  · have h6n : (t != 6) = true := by simpa using h6
    have h6e : (t == 6) = false := by simpa using h6
    have OR := Lib.hid (fun w => OR.out w h6n)
    clear h6 h6n
    have c0 := hR1.get 0 _
    have c1 := hR1.get 1 _
    have c2 := hR1.get 2 _
    have c3 := hR1.get 3 _
    go_wp2_with fail
    clear c0 c1 c2 c3
    refine (OR.out _).mono ?_
    rintro e w2 ⟨rfl, hb2'⟩
    unfold soa0
    have hR2 := hR1.below hb2'
    have hb2 := below_trans hb1 hb1.size hb2'
    clear hR1 hb1 hb2'
    have hS := Cs.new w2 #[.string ⟨#[]⟩, .string ⟨#[]⟩, .int .u32 0, .int .u32 0, .int .u32 0, .int .u32 0, .int .u32 0] 28 [.string ⟨#[]⟩, .string ⟨#[]⟩, .int .u32 0, .int .u32 0, .int .u32 0, .int .u32 0, .int .u32 0]
    have hR3 := hR2.alloc (.cells #[.string ⟨#[]⟩, .string ⟨#[]⟩, .int .u32 0, .int .u32 0, .int .u32 0, .int .u32 0, .int .u32 0] 28)
    have hb3 := hb2.alloc hb2.size (.cells #[.string ⟨#[]⟩, .string ⟨#[]⟩, .int .u32 0, .int .u32 0, .int .u32 0, .int .u32 0, .int .u32 0] 28)
    have hlt := hR2.lt
    have c0 := hR2.get 0 _
    have c1 := hR2.get 1 _
    have c2 := hR2.get 2 _
    have c3 := hR2.get 3 _
    go_wp2_with fail
    clear c0 c1 c2 c3
    generalize hW3 : w2.alloc (.cells #[.string ⟨#[]⟩, .string ⟨#[]⟩, .int .u32 0, .int .u32 0, .int .u32 0, .int .u32 0, .int .u32 0] 28) = W3 at *
    generalize hP7 : w2.heap.size = P7 at *
    clear hW3 hP7 hR2 hb2 hlt
    refine (PR.out _).mono ?_
    rintro e w4 ⟨hb4', ⟨a', b', x', hy', rfl⟩ | ⟨-, rfl⟩⟩
    · obtain ⟨a1, a2, a3, a4, a5, a6, a7, hval⟩ := soaV_agg a' b' x'
      rw [hval]
      clear hval hy'
      have hR4 := hR3.below hb4'
      have hS4 := hS.below hb4'
      have hb4 := below_trans hb3 hb3.size hb4'
      clear hR3 hS hb3 hb4'
      have hT := Cs.new w4 #[.string a1, .string a2, .int .u32 a3, .int .u32 a4, .int .u32 a5, .int .u32 a6, .int .u32 a7] 28 [.string a1, .string a2, .int .u32 a3, .int .u32 a4, .int .u32 a5, .int .u32 a6, .int .u32 a7]
      have hR5 := hR4.alloc (.cells #[.string a1, .string a2, .int .u32 a3, .int .u32 a4, .int .u32 a5, .int .u32 a6, .int .u32 a7] 28)
      have hS5 := hS4.alloc (.cells #[.string a1, .string a2, .int .u32 a3, .int .u32 a4, .int .u32 a5, .int .u32 a6, .int .u32 a7] 28)
      have hb5 := hb4.alloc hb4.size (.cells #[.string a1, .string a2, .int .u32 a3, .int .u32 a4, .int .u32 a5, .int .u32 a6, .int .u32 a7] 28)
      have hlt := hR4.lt
      have hlt2 := hS4.lt
      have c0 := hR5.get 0 _
      have c1 := hR5.get 1 _
      have c2 := hR5.get 2 _
      have c3 := hR5.get 3 _
      have s0 := hS5.get 0 _
      have s1 := hS5.get 1 _
      have s2 := hS5.get 2 _
      have s3 := hS5.get 3 _
      have s4 := hS5.get 4 _
      have s5 := hS5.get 5 _
      have s6 := hS5.get 6 _
      go_wp2_with fail
      clear c0 c1 c2 c3
      clear s0 s1 s2 s3 s4 s5 s6
      generalize hW5 : w4.alloc (.cells #[.string a1, .string a2, .int .u32 a3, .int .u32 a4, .int .u32 a5, .int .u32 a6, .int .u32 a7] 28) = W5 at *
      generalize hP9 : w4.heap.size = P9 at *
      clear hW5 hP9 hR4 hS4 hb4 hlt hlt2 hR5 hS5 hT
      refine (MK.out _ ((hA.below hb5).more hb5.size)).mono ?_
      rintro e w6 ⟨rfl, hb6'⟩
      have hb6 := below_trans hb5 hb5.size hb6'
      clear hb5 hb6'
      go_wp2_with fail
      refine (OS.out _).mono ?_
      rintro e w7 ⟨hb7', ⟨a', b', x', hy, rfl⟩ | ⟨hno, -⟩⟩
      rotate_left
      · exact absurd HY.out (hno _ _ _)
      have hb7 := below_trans hb6 hb6.size hb7'
      clear hb6 hb7'
      rw [HV.out _ _ _ hy]
      clear hy
      go_wp2_with fail
      have hU := Cs.new w7 #[.string x1, .string x1, .int .u32 s, .int .u32 1, .int .u32 2, .int .u32 3, .int .u32 1] 28 [.string x1, .string x1, .int .u32 s, .int .u32 1, .int .u32 2, .int .u32 3, .int .u32 1]
      have hb8 := hb7.alloc hb7.size (.cells #[.string x1, .string x1, .int .u32 s, .int .u32 1, .int .u32 2, .int .u32 3, .int .u32 1] 28)
      generalize hW8 : w7.alloc (.cells #[.string x1, .string x1, .int .u32 s, .int .u32 1, .int .u32 2, .int .u32 3, .int .u32 1] 28) = W8 at *
      generalize hP12 : w7.heap.size = P12 at *
      clear hW8 hP12 hb7
      refine (MK.out _ ((hA.below hb8).more hb8.size)).mono ?_
      rintro e w9 ⟨rfl, hb9'⟩
      have hU9 := hU.below hb9'
      have hb9 := below_trans hb8 hb8.size hb9'
      clear hb8 hb9' hU
      go_wp2_with fail
      refine (OT.out _).mono ?_
      rintro e w10 ⟨rfl, hb10'⟩
      have hU10 := hU9.below hb10'
      have hb10 := below_trans hb9 hb9.size hb10'
      clear hb9 hb10' hU9
      have hU11 := hU10.alloc (.cells #[.string ⟨#[]⟩, .string ⟨#[]⟩, .int .u32 0, .int .u32 0, .int .u32 0, .int .u32 0, .int .u32 0] 28)
      have hb11 := hb10.alloc hb10.size (.cells #[.string ⟨#[]⟩, .string ⟨#[]⟩, .int .u32 0, .int .u32 0, .int .u32 0, .int .u32 0, .int .u32 0] 28)
      unfold soa0
      have c0 := hU10.get 0 _
      have c1 := hU10.get 1 _
      have c2 := hU10.get 2 _
      have c3 := hU10.get 3 _
      have c4 := hU10.get 4 _
      have c5 := hU10.get 5 _
      have c6 := hU10.get 6 _
      have hlt := hU10.lt
      clear hU10 hU11
      go_wp2_with fail
      go_ret
      exact ⟨rfl, hb11⟩
    · unfold soa0
      have hR4 := hR3.below hb4'
      have hS4 := hS.below hb4'
      have hb4 := below_trans hb3 hb3.size hb4'
      clear hR3 hS hb3 hb4'
      have hT := Cs.new w4 #[.string ⟨#[]⟩, .string ⟨#[]⟩, .int .u32 0, .int .u32 0, .int .u32 0, .int .u32 0, .int .u32 0] 28 [.string ⟨#[]⟩, .string ⟨#[]⟩, .int .u32 0, .int .u32 0, .int .u32 0, .int .u32 0, .int .u32 0]
      have hR5 := hR4.alloc (.cells #[.string ⟨#[]⟩, .string ⟨#[]⟩, .int .u32 0, .int .u32 0, .int .u32 0, .int .u32 0, .int .u32 0] 28)
      have hS5 := hS4.alloc (.cells #[.string ⟨#[]⟩, .string ⟨#[]⟩, .int .u32 0, .int .u32 0, .int .u32 0, .int .u32 0, .int .u32 0] 28)
      have hb5 := hb4.alloc hb4.size (.cells #[.string ⟨#[]⟩, .string ⟨#[]⟩, .int .u32 0, .int .u32 0, .int .u32 0, .int .u32 0, .int .u32 0] 28)
      have hlt := hR4.lt
      have hlt2 := hS4.lt
      have c0 := hR5.get 0 _
      have c1 := hR5.get 1 _
      have c2 := hR5.get 2 _
      have c3 := hR5.get 3 _
      have s0 := hS5.get 0 _
      have s1 := hS5.get 1 _
      have s2 := hS5.get 2 _
      have s3 := hS5.get 3 _
      have s4 := hS5.get 4 _
      have s5 := hS5.get 5 _
      have s6 := hS5.get 6 _
      go_wp2_with fail
      clear c0 c1 c2 c3
      clear s0 s1 s2 s3 s4 s5 s6
      generalize hW5 : w4.alloc (.cells #[.string ⟨#[]⟩, .string ⟨#[]⟩, .int .u32 0, .int .u32 0, .int .u32 0, .int .u32 0, .int .u32 0] 28) = W5 at *
      generalize hP9 : w4.heap.size = P9 at *
      clear hW5 hP9 hR4 hS4 hb4 hlt hlt2 hR5 hS5 hT
      refine (MK.out _ ((hA.below hb5).more hb5.size)).mono ?_
      rintro e w6 ⟨rfl, hb6'⟩
      have hb6 := below_trans hb5 hb5.size hb6'
      clear hb5 hb6'
      go_wp2_with fail
      refine (OS.out _).mono ?_
      rintro e w7 ⟨hb7', ⟨a', b', x', hy, rfl⟩ | ⟨hno, -⟩⟩
      rotate_left
      · exact absurd HY.out (hno _ _ _)
      have hb7 := below_trans hb6 hb6.size hb7'
      clear hb6 hb7'
      rw [HV.out _ _ _ hy]
      clear hy
      go_wp2_with fail
      have hU := Cs.new w7 #[.string x1, .string x1, .int .u32 s, .int .u32 1, .int .u32 2, .int .u32 3, .int .u32 1] 28 [.string x1, .string x1, .int .u32 s, .int .u32 1, .int .u32 2, .int .u32 3, .int .u32 1]
      have hb8 := hb7.alloc hb7.size (.cells #[.string x1, .string x1, .int .u32 s, .int .u32 1, .int .u32 2, .int .u32 3, .int .u32 1] 28)
      generalize hW8 : w7.alloc (.cells #[.string x1, .string x1, .int .u32 s, .int .u32 1, .int .u32 2, .int .u32 3, .int .u32 1] 28) = W8 at *
      generalize hP12 : w7.heap.size = P12 at *
      clear hW8 hP12 hb7
      refine (MK.out _ ((hA.below hb8).more hb8.size)).mono ?_
      rintro e w9 ⟨rfl, hb9'⟩
      have hU9 := hU.below hb9'
      have hb9 := below_trans hb8 hb8.size hb9'
      clear hb8 hb9' hU
      go_wp2_with fail
      refine (OT.out _).mono ?_
      rintro e w10 ⟨rfl, hb10'⟩
      have hU10 := hU9.below hb10'
      have hb10 := below_trans hb9 hb9.size hb10'
      clear hb9 hb10' hU9
      have hU11 := hU10.alloc (.cells #[.string ⟨#[]⟩, .string ⟨#[]⟩, .int .u32 0, .int .u32 0, .int .u32 0, .int .u32 0, .int .u32 0] 28)
      have hb11 := hb10.alloc hb10.size (.cells #[.string ⟨#[]⟩, .string ⟨#[]⟩, .int .u32 0, .int .u32 0, .int .u32 0, .int .u32 0, .int .u32 0] 28)
      unfold soa0
      have c0 := hU10.get 0 _
      have c1 := hU10.get 1 _
      have c2 := hU10.get 2 _
      have c3 := hU10.get 3 _
      have c4 := hU10.get 4 _
      have c5 := hU10.get 5 _
      have c6 := hU10.get 6 _
      have hlt := hU10.lt
      clear hU10 hU11
      go_wp2_with fail
      go_ret
      exact ⟨rfl, hb11⟩
end Go.Proofs.Ytdekaaclheoapaa
