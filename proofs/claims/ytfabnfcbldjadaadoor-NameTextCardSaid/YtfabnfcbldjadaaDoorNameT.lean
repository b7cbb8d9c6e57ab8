/- The contract of the statements' own 'text'. -/
import Derived.Test.YtfabnfcbldjadaaDoorNameD
import Derived.Test.YtfabnfcbldjadaaDoorOb
import Derived.Outline
namespace Go.Proofs.YtfabnfcbldjadaaDoor
open Go.RowKit
set_option linter.unusedVariables false
set_option linter.unusedSimpArgs false
set_option maxRecDepth 20000
/-- The text of some labels. -/
def textLaw (ls : List (List UInt8)) : List UInt8 := match ls with | [] => [46] | ls => textL ls
theorem cat_mk (a b : List UInt8) : (ByteArray.mk a.toArray) ++ (ByteArray.mk b.toArray) = ByteArray.mk (a ++ b).toArray := by apply ByteArray.ext; simp
theorem textL_pre {ls : List (List UInt8)} {i : Nat} (h : i < ls.length) (k : Nat) : (textL (ls.take i) ++ ((ls[i]).take k).flatMap signL).length ≤ (textL ls).length := by
  have h1 := textL_take h
  have h2 : textL ls = textL (ls.take (i + 1)) ++ textL (ls.drop (i + 1)) := by unfold textL; rw [← List.flatMap_append, List.take_append_drop]
  have h3 : (ls[i]).flatMap signL = ((ls[i]).take k).flatMap signL ++ ((ls[i]).drop k).flatMap signL := by rw [← List.flatMap_append, List.take_append_drop]
  rw [h2, h1, h3]
  simp only [List.length_append]
  omega
theorem textL_take_le (ls : List (List UInt8)) (i : Nat) : (textL (ls.take i)).length ≤ (textL ls).length := by
  have h2 : textL ls = textL (ls.take i) ++ textL (ls.drop i) := by unfold textL; rw [← List.flatMap_append, List.take_append_drop]
  rw [h2, List.length_append]; omega
set_option maxHeartbeats 6400000 in
theorem lawtext_any (A : Option Addr) (n c : Nat) (ls : List (List UInt8)) (w : World) (hA : Sl w w.heap.size 1 A n (ls.map sv)) (hn : n ≤ maxLen) (hsz : ∀ l ∈ ls, l.length ≤ 1048576) (hb : (textL ls).length ≤ 1048576) :
    Calls Tryd.prog 10 #[.slice A n c] w fun e w' => e = .returned (sv (textLaw ls)) ∧ Below w.heap.size w w' := by
  have hl : ls.length = n := by simpa using hA.1
  unfold maxLen at hn
  have HA := Lib.hid hA
  have HB := Lib.hid hb
  have HSZ := Lib.hid hsz
  have HL := Lib.hid hl
  clear hA hb hsz hl
  go_enter Tryd.func10, Tryd.ntmps10
  go_wp2_with fail
  go_loopw [3, 10] (fun s i wr => ∃ k : Nat, k ≤ n ∧ i = .int .i64 k ∧ s = .string ⟨(textL (ls.take k)).toArray⟩ ∧ Below w.heap.size w wr) (fun _ i _ => n - (intOf i).toNat)
  case atStart => exact ⟨0, Nat.zero_le _, rfl, by simp [textL], Below.refl _ _⟩
  case round =>
    obtain ⟨k, hk, rfl, rfl, hbw⟩ := hrel
    by_cases hlt : k < n
    · obtain ⟨g, off, u, rfl, hbb, hu, hcell⟩ := (HA.out.below hbw).at_ hlt
      have hkl : k < ls.length := by rw [HL.out]; exact hlt
      rw [List.getElem?_map, List.getElem?_eq_getElem hkl, Option.map_some, Option.some.injEq] at hu
      subst hu
      have hlti : (k : Int) < n := by omega
      obtain ⟨x, hx⟩ : ∃ x, ls[k] = x := ⟨_, rfl⟩
      have hxs : x.length ≤ 1048576 := by rw [← hx]; exact HSZ.out _ (List.getElem_mem hkl)
      obtain ⟨X, hX⟩ : ∃ X : ByteArray, X = ⟨x.toArray⟩ := ⟨_, rfl⟩
      have hXs : X.size = x.length := by rw [hX, mk_size]
      rw [hx, show sv x = .string X by rw [hX]; rfl] at hcell
      have hpre := fun j => textL_pre hkl j
      have hnx := textL_take hkl
      rw [hx] at hpre hnx
      obtain ⟨P0, hP0⟩ : ∃ P0, P0 = textL (ls.take k) := ⟨_, rfl⟩
      rw [← hP0] at hpre hnx ⊢
      have hi2 : IntKind.i64.wrap ((k : Int) + 1) = (k : Int) + 1 := IntWalk.i64_in _ (by omega)
      have HPRE := Lib.hid hpre
      have HNX := Lib.hid hnx
      have HX := Lib.hid hX
      have HXS := Lib.hid hXs
      have HP0 := Lib.hid hP0
      clear hx hX hXs hpre hnx hP0
      go_wp2_with fail
      go_loopw [3, 6] (fun s i wx => ∃ j : Nat, j ≤ x.length ∧ i = .int .i64 j ∧ s = .string ⟨(P0 ++ (x.take j).flatMap signL).toArray⟩ ∧ Below w.heap.size w wx) (fun _ i _ => x.length - (intOf i).toNat)
      case atStart => exact ⟨0, Nat.zero_le _, rfl, by simp, hbw⟩
      case round =>
        obtain ⟨j, hj, rfl, rfl, hbx⟩ := hrel
        by_cases hltj : j < x.length
        · have hjX : j < X.size := by rw [HXS.out]; exact hltj
          have hjXi : (j : Int) < X.size := by omega
          have hjX2 : ¬ (X.size : Int) ≤ j := by omega
          obtain ⟨cc, hcc⟩ : ∃ cc, X[j] = cc := ⟨_, rfl⟩
          have hcx : x[j] = cc := by
            rw [← hcc]
            have hX := HX.out
            subst hX
            rfl
          have hlt8 := UInt8.toNat_lt cc
          have hpl : plainC cc = decide ((97 ≤ cc.toNat ∧ cc.toNat ≤ 122) ∨ (48 ≤ cc.toNat ∧ cc.toNat ≤ 57) ∨ cc.toNat = 45 ∨ cc.toNat = 95 ∨ cc.toNat = 42) := rfl
          have htk : (x.take (j + 1)).flatMap signL = (x.take j).flatMap signL ++ signL cc := by
            rw [List.take_succ_eq_append_getElem hltj, List.flatMap_append, hcx]; simp
          have hb1 := HPRE.out (j + 1)
          have hb2 := HB.out
          rw [htk, ← List.append_assoc] at hb1
          obtain ⟨Y, hY⟩ : ∃ Y, Y = P0 ++ (x.take j).flatMap signL := ⟨_, rfl⟩
          rw [← hY] at hb1 ⊢
          obtain ⟨S, hS⟩ : ∃ S : ByteArray, S = ⟨Y.toArray⟩ := ⟨_, rfl⟩
          have hSs : S.size = Y.length := by rw [hS, mk_size]
          have HFIN : Hid (Y ++ signL cc = P0 ++ (x.take (j + 1)).flatMap signL) := Lib.hid (by rw [hY, htk, List.append_assoc])
          rw [← hS]
          have hj2 : IntKind.i64.wrap ((j : Int) + 1) = (j : Int) + 1 := IntWalk.i64_in _ (by omega)
          have hjle : (j : Int) + 1 ≤ X.size := by omega
          have hjle2 : j + 1 ≤ X.size := by omega
          have hmeas : j < x.length := hltj
          rw [List.length_append] at hb1
          clear htk hY
          by_cases hp : plainC cc = true
          · have hsg : signL cc = [cc] := by unfold signL; rw [if_pos hp]
            rw [hp] at hpl
            replace hpl := of_decide_eq_true hpl.symm
            obtain ⟨E, hE⟩ : ∃ E : ByteArray, E = ⟨[cc].toArray⟩ := ⟨_, rfl⟩
            have hex : X.extract j (j + 1) = E := by
              have hX := HX.out
              rw [hE]; subst hX
              apply ByteArray.ext
              apply Array.ext'
              simp
              rw [List.take_one, List.head?_drop, List.getElem?_eq_getElem (by omega), hcx]; rfl
            obtain ⟨NS, hNS⟩ : ∃ NS : ByteArray, NS = ⟨(P0 ++ (x.take (j + 1)).flatMap signL).toArray⟩ := ⟨_, rfl⟩
            have hcat : S ++ E = NS := by rw [hS, hE, cat_mk, hNS, ← HFIN.out, hsg]
            have hsz2 : ¬ 9223372036854775807 < S.size + E.size := by rw [hSs, hE, mk_size]; simp; omega
            have HNS := Lib.hid hNS
            clear hS hE hNS hsg hp hb1 hcx hSs HFIN
            obtain ⟨m, hm⟩ : ∃ m, cc.toNat = m := ⟨_, rfl⟩
            have HNSE : Hid (NS = ⟨(P0 ++ (x.take (j + 1)).flatMap signL).toArray⟩) := HNS
            rw [hm] at hpl hlt8
            rcases hpl with h | h | h | h | h
            all_goals
              first | have d1 : (97 : Int) ≤ m := by omega | have d1 : ¬ (97 : Int) ≤ m := by omega
              first | have d2 : (m : Int) ≤ 122 := by omega | have d2 : ¬ (m : Int) ≤ 122 := by omega
              first | have d3 : (48 : Int) ≤ m := by omega | have d3 : ¬ (48 : Int) ≤ m := by omega
              first | have d4 : (m : Int) ≤ 57 := by omega | have d4 : ¬ (m : Int) ≤ 57 := by omega
              first | have d5 : ((m : Int) == 45) = true := by (rw [beq_iff_eq]; omega) | have d5 : ((m : Int) == 45) = false := by (rw [beq_eq_false_iff_ne]; omega)
              first | have d6 : ((m : Int) == 95) = true := by (rw [beq_iff_eq]; omega) | have d6 : ((m : Int) == 95) = false := by (rw [beq_eq_false_iff_ne]; omega)
              first | have d7 : ((m : Int) == 42) = true := by (rw [beq_iff_eq]; omega) | have d7 : ((m : Int) == 42) = false := by (rw [beq_eq_false_iff_ne]; omega)
              clear h hlt8
              go_wp2_with fail
              go_roundw
              case rel => exact ⟨j + 1, by omega, by go_num, by rw [HNSE.out], hbx⟩
              case measure => simp [intOf]; omega
          · have hsg : signL cc = [92, 48 + cc / 100, 48 + cc / 10 % 10, 48 + cc % 10] := by unfold signL; rw [if_neg hp]
            rw [Bool.not_eq_true] at hp
            rw [hp] at hpl
            replace hpl := of_decide_eq_false hpl.symm
            obtain ⟨S1, hS1⟩ : ∃ S1 : ByteArray, S1 = ⟨(Y ++ [92]).toArray⟩ := ⟨_, rfl⟩
            obtain ⟨E, hE⟩ : ∃ E : ByteArray, E = ⟨([48 + cc / 100, 48 + cc / 10 % 10, 48 + cc % 10] : List UInt8).toArray⟩ := ⟨_, rfl⟩
            obtain ⟨NS, hNS⟩ : ∃ NS : ByteArray, NS = ⟨(P0 ++ (x.take (j + 1)).flatMap signL).toArray⟩ := ⟨_, rfl⟩
            have hcat1 : S ++ (ByteArray.mk #[92]) = S1 := by rw [hS, show (ByteArray.mk #[92]) = ByteArray.mk ([92] : List UInt8).toArray from rfl, cat_mk, hS1]
            have hcat2 : S1 ++ E = NS := by rw [hS1, hE, cat_mk, hNS, ← HFIN.out, hsg, List.append_assoc]; rfl
            have hsz2 : ¬ 9223372036854775807 < S.size + 1 := by rw [hSs]; omega
            have hsz3 : ¬ 9223372036854775807 < S.size + (ByteArray.mk #[92]).size := by rw [show (ByteArray.mk #[92]).size = 1 from rfl]; exact hsz2
            have hsz4 : ¬ 9223372036854775807 < S1.size + E.size := by rw [hS1, hE, mk_size, mk_size]; simp; omega
            have hcv := run_string_of (P := Tryd.prog) (wr.alloc (.cells #[bv (48 + cc / 100), bv (48 + cc / 10 % 10), bv (48 + cc % 10)] 5)) 36 9 5 _ (some ⟨wr.heap.size, 0, none⟩) 3 [48 + cc / 100, 48 + cc / 10 % 10, 48 + cc % 10] Tryd.underlying36 Tryd.underlying5 Tryd.underlying9 (Sl.fresh _ _ _ _ _ rfl rfl) (by intro h; cases h) 3
            rw [sign_d1, sign_d2, sign_d3, ← hE] at hcv
            have HNS := Lib.hid hNS
            have hbx2 := fun o => Lib.hid (hbx.alloc hbx.size o)
            clear hS hE hNS hsg hp hb1 hcx hSs HFIN hS1
            obtain ⟨m, hm⟩ : ∃ m, cc.toNat = m := ⟨_, rfl⟩
            rw [hm] at hpl hlt8 hcv
            have d5 : ((m : Int) == 45) = false := by rw [beq_eq_false_iff_ne]; omega
            have d6 : ((m : Int) == 95) = false := by rw [beq_eq_false_iff_ne]; omega
            have d7 : ((m : Int) == 42) = false := by rw [beq_eq_false_iff_ne]; omega
            have e1 : IntKind.u8.wrap (48 + (m : Int) / 100) = 48 + (m : Int) / 100 := by simp [IntKind.wrap, IntKind.bits, IntKind.signed]; omega
            have e2 : IntKind.u8.wrap (48 + (m : Int) / 10 % 10) = 48 + (m : Int) / 10 % 10 := by simp [IntKind.wrap, IntKind.bits, IntKind.signed]; omega
            have e3 : IntKind.u8.wrap (48 + (m : Int) % 10) = 48 + (m : Int) % 10 := by simp [IntKind.wrap, IntKind.bits, IntKind.signed]; omega
            have hlt' : (m : Int) < 256 := by omega
            have h : m < 48 ∨ (58 ≤ m ∧ m < 97) ∨ (123 ≤ m ∧ m < 256) := by omega
            clear hpl
            rcases h with h | h | h
            all_goals
              first | have d1 : (97 : Int) ≤ m := by omega | have d1 : ¬ (97 : Int) ≤ m := by omega
              first | have d2 : (m : Int) ≤ 122 := by omega | have d2 : ¬ (m : Int) ≤ 122 := by omega
              first | have d3 : (48 : Int) ≤ m := by omega | have d3 : ¬ (48 : Int) ≤ m := by omega
              first | have d4 : (m : Int) ≤ 57 := by omega | have d4 : ¬ (m : Int) ≤ 57 := by omega
              clear h hlt8
              go_wp2_with fail
              go_roundw
              case rel => exact ⟨j + 1, by omega, by go_num, by rw [HNS.out], (hbx2 _).out⟩
              case measure => simp [intOf]; omega
        · obtain rfl : j = x.length := by omega
          have hge : ¬ (x.length : Int) < X.size := by have := HXS.out; omega
          have hcat : (ByteArray.mk (P0 ++ (x.take x.length).flatMap signL).toArray) ++ (ByteArray.mk #[46]) = ByteArray.mk (textL (ls.take (k + 1))).toArray := by
            rw [show (ByteArray.mk #[46]) = ByteArray.mk ([46] : List UInt8).toArray from rfl, cat_mk, HNX.out, List.take_length, List.append_assoc]
          obtain ⟨S, hS⟩ : ∃ S : ByteArray, S = ⟨(P0 ++ (x.take x.length).flatMap signL).toArray⟩ := ⟨_, rfl⟩
          obtain ⟨NS, hNS⟩ : ∃ NS : ByteArray, NS = ⟨(textL (ls.take (k + 1))).toArray⟩ := ⟨_, rfl⟩
          have hss : S.size ≤ 1048576 := by rw [hS, mk_size]; have := HPRE.out x.length; have := HB.out; omega
          have hsz2 : ¬ 9223372036854775807 < S.size + 1 := by omega
          have hsz3 : ¬ 9223372036854775807 < S.size + (ByteArray.mk #[46]).size := by
            rw [show (ByteArray.mk #[46]).size = 1 from rfl]; omega
          rw [← hS, ← hNS] at hcat
          rw [← hS]
          have HNS := Lib.hid hNS
          clear hS hNS
          go_wp2_with fail
          go_roundw
          case rel => exact ⟨k + 1, by omega, by go_num, by rw [HNS.out], hbx⟩
          case measure => simp [intOf]; omega
    · obtain rfl : k = n := by omega
      have hge : ¬ (k : Int) < k := by omega
      have hall : ls.take k = ls := List.take_of_length_le (by rw [HL.out]; omega)
      rw [hall]
      obtain ⟨S, hS⟩ : ∃ S : ByteArray, S = ⟨(textL ls).toArray⟩ := ⟨_, rfl⟩
      rw [← hS]
      have hbf := Lib.hid hbw
      cases hls : ls with
      | nil =>
        have hem : S = ⟨#[]⟩ := by rw [hS, hls]; rfl
        subst hem
        have HR : Hid (sv (textLaw ([] : List (List UInt8))) = .string ⟨#[46]⟩) := Lib.hid rfl
        clear hbw
        go_wp2_with fail
        go_ret
        exact ⟨congrArg Ending.returned HR.out.symm, hbf.out⟩
      | cons a b =>
        have hne : S.size ≠ 0 := by rw [hS, mk_size, hls]; simp [textL]
        have h0 := str_empty S hne
        have HR : Hid (sv (textLaw ls) = .string S) := Lib.hid (by rw [hS, hls]; rfl)
        clear hS hne hls
        go_wp2_with fail
        go_ret
        exact ⟨congrArg Ending.returned HR.out.symm, hbf.out⟩
end Go.Proofs.YtfabnfcbldjadaaDoor
