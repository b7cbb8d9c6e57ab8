/- The document's examples of layer 7; the walks of SoaNames and SoaParse. -/
import Derived.Test.YtdekaaclheoapaaSoaC
import Derived.Test.YtdekaaclheoapaaView
namespace Go.Proofs.Ytdekaaclheoapaa
open Go.RowKit
set_option linter.unusedVariables false
set_option maxRecDepth 20000

set_option maxHeartbeats 800000 in
theorem cutSoa_any (s : ByteArray) (w : World) (hs : s.size ≤ 140737488355328) :
    Calls Try.prog 51 #[.string s] w fun e w' => Below w.heap.size w w' ∧ ((∃ a b t, IsSoa s.data.toList a b t ∧ e = .returned (.tuple #[sv a, sv b, sv t, .bool true])) ∨ ((∀ a b t, ¬ IsSoa s.data.toList a b t) ∧ e = .returned (.tuple #[.string ⟨#[]⟩, .string ⟨#[]⟩, .string ⟨#[]⟩, .bool false]))) := by
  have hlen : s.data.toList.length = s.size := by simp
  obtain ⟨L, hL⟩ : ∃ L, s.data.toList = L := ⟨_, rfl⟩
  have HC := Lib.hid (fun w => cutp_any s w hs)
  rw [hL] at HC hlen
  rw [hL]
  clear hL
  go_enter Try.func51, Try.ntmps51
  go_wp2_with fail
  refine (HC.out _).mono ?_
  rintro e w1 ⟨hb1, ⟨a, r, hc1, rfl⟩ | ⟨hno, rfl⟩⟩
  · have HC1 := Lib.hid hc1
    have hl1 := hc1.len
    have HC2 := Lib.hid (fun w => cutp_any ⟨r.toArray⟩ w (by rw [mk_size]; omega))
    rw [mk_toList] at HC2
    clear hc1
    unfold sv
    go_wp2_with fail
    refine (HC2.out _).mono ?_
    rintro e w2 ⟨hb2', ⟨b, t, hc2, rfl⟩ | ⟨hno, rfl⟩⟩
    all_goals have hb2 := below_trans hb1 hb1.size hb2'
    · unfold sv
      by_cases h20 : t.length = 20
      · have hsz : (ByteArray.mk t.toArray).size = 20 := by rw [mk_size]; exact h20
        have HY := Lib.hid (isSoa_yes HC1.out hc2 h20)
        have hne : (((ByteArray.mk t.toArray).size : Int) != 20) = false := by rw [hsz]; decide
        obtain ⟨T, hT⟩ : ∃ T, T = ByteArray.mk t.toArray := ⟨_, rfl⟩
        rw [← hT] at hsz hne ⊢
        have HT := Lib.hid hT
        clear hc2 HC1 HC2 HC h20 hT
        go_wp2_with fail
        refine bodyPost_ret (v := .tuple #[.string ⟨a.toArray⟩, .string ⟨b.toArray⟩, .string T, .bool true]) (by simp [results, Try.results51, go_sem]) rfl ⟨hb2, .inl ⟨a, b, t, HY.out, ?_⟩⟩
        rw [HT.out]; rfl
      · have hne : (((ByteArray.mk t.toArray).size : Int) != 20) = true := by rw [mk_size]; simp; omega
        have HN := Lib.hid (isSoa_no3 HC1.out hc2 h20)
        generalize ByteArray.mk t.toArray = T at *
        clear hc2 HC1 HC2 HC h20
        go_wp2_with fail
        refine bodyPost_ret (v := .tuple #[.string ⟨#[]⟩, .string ⟨#[]⟩, .string ⟨#[]⟩, .bool false]) (by simp [results, Try.results51, go_sem]) rfl ⟨hb2, .inr ⟨HN.out, rfl⟩⟩
    · have HN := Lib.hid (isSoa_no2 HC1.out hno)
      clear HC1 HC2 HC hno
      go_wp2_with fail
      refine bodyPost_ret (v := .tuple #[.string ⟨#[]⟩, .string ⟨#[]⟩, .string ⟨#[]⟩, .bool false]) (by simp [results, Try.results51, go_sem]) rfl ⟨hb2, .inr ⟨HN.out, rfl⟩⟩
  · have HN := Lib.hid (isSoa_no1 hno)
    clear HC hno
    go_wp2_with fail
    refine bodyPost_ret (v := .tuple #[.string ⟨#[]⟩, .string ⟨#[]⟩, .string ⟨#[]⟩, .bool false]) (by simp [results, Try.results51, go_sem]) rfl ⟨hb1, .inr ⟨HN.out, rfl⟩⟩
theorem rmay_soa (s : ByteArray) (w : World) (hs : s.size ≤ 140737488355328) :
    Calls Try.prog 20 #[.int .u16 6, .string s] w fun e w' => Below w.heap.size w w' ∧ (((∃ a b t, IsSoa s.data.toList a b t) ∧ e = .returned (.bool true)) ∨ ((∀ a b t, ¬ IsSoa s.data.toList a b t) ∧ e = .returned (.bool false))) := by
  have HC := Lib.hid (fun w => cutSoa_any s w hs)
  go_enter Try.func20, Try.ntmps20
  go_wp2_with fail
  refine (HC.out _).mono ?_
  rintro e w1 ⟨hb1, ⟨a, b, t, hy, rfl⟩ | ⟨hno, rfl⟩⟩
  · have HY := Lib.hid hy
    clear hy
    unfold sv
    go_wp2_with fail
    go_ret
    exact ⟨hb1, .inl ⟨⟨a, b, t, HY.out⟩, rfl⟩⟩
  · have HN := Lib.hid hno
    clear hno
    go_wp2_with fail
    go_ret
    exact ⟨hb1, .inr ⟨HN.out, rfl⟩⟩
theorem awake07_any (w : World) : Calls Try.prog 15 #[] w fun e w' => e = .returned (.bool true) ∧ Below w.heap.size w w' := by
  have HD := Lib.hid (fun w => sdata_any ⟨#[]⟩ ⟨#[]⟩ 1 2 3 4 5 w (by decide) (by decide) (by decide) (by decide) (by decide) (by decide) (by decide))
  have hm : mayL (ByteArray.mk #[]).data.toList := by unfold mayL; decide
  have HM := Lib.hid hm
  clear hm
  go_enter Try.func15, Try.ntmps15
  go_wp2_with fail
  refine (HD.out _).mono ?_
  rintro e w1 ⟨hb1, ⟨-, rfl⟩ | ⟨hno, -⟩⟩
  · rw [show sv (dataL (ByteArray.mk #[]).data.toList (ByteArray.mk #[]).data.toList [1, 2, 3, 4, 5]) = .string ⟨#[0, 0, 0, 0, 0, 1, 0, 0, 0, 2, 0, 0, 0, 3, 0, 0, 0, 4, 0, 0, 0, 5]⟩ by rfl]
    go_wp2_with fail
    go_ret
    exact ⟨rfl, hb1⟩
  · exact absurd ⟨HM.out, HM.out⟩ hno
theorem dataL_len (a b : List UInt8) (ns : List Nat) : (dataL a b ns).length = a.length + b.length + 4 * ns.length + 2 := by
  unfold dataL; have := b32_len ns; simp only [List.length_append, List.length_cons, this]; omega
set_option maxHeartbeats 1600000 in
theorem soaNames_walk (w : World) (a : ByteArray) (ha : a.size ≤ 140737488351232) (b : ByteArray) (hb : b.size ≤ 140737488351232) :
    Calls Try.prog 6 #[.string a, .string b] w fun e w' => e = .returned (.bool true) ∧ Below w.heap.size w w' := by
  have HD := Lib.hid (fun w => sdata_any a b 0 0 0 0 0 w (by omega) (by omega) (by decide) (by decide) (by decide) (by decide) (by decide))
  have ma := fun w => may_any a w (by unfold maxLen; omega)
  have mb := fun w => may_any b w (by unfold maxLen; omega)
  have EA := Lib.hid (may_mayL a)
  have EB := Lib.hid (may_mayL b)
  obtain ⟨x, hx⟩ : ∃ x, (labelsOf a).isSome = x := ⟨_, rfl⟩
  obtain ⟨y, hy⟩ : ∃ y, (labelsOf b).isSome = y := ⟨_, rfl⟩
  rw [hx] at ma EA
  rw [hy] at mb EB
  have MA := Lib.hid ma
  have MB := Lib.hid mb
  clear ma mb hx hy
  go_enter Try.func6, Try.ntmps6
  go_wp2_with fail
  refine (awake07_any _).mono ?_
  rintro e w1 ⟨rfl, hb1⟩
  go_wp2_with fail
  refine (HD.out _).mono ?_
  rintro e w2 ⟨hb2', ⟨hyes, rfl⟩ | ⟨hno, rfl⟩⟩
  · have hb2 := below_trans hb1 hb1.size hb2'
    obtain rfl : x = true := EA.out.2 hyes.1
    obtain rfl : y = true := EB.out.2 hyes.2
    have sz : (ByteArray.mk (dataL a.data.toList b.data.toList [0, 0, 0, 0, 0]).toArray).size = a.size + b.size + 22 := by rw [mk_size, dataL_len]; simp
    unfold sv
    obtain ⟨D, hD⟩ : ∃ D, D = ByteArray.mk (dataL a.data.toList b.data.toList [0, 0, 0, 0, 0]).toArray := ⟨_, rfl⟩
    rw [← hD] at sz ⊢
    have szi : (D.size : Int) = (a.size : Int) + b.size + 22 := by omega
    have i1 : IntKind.i64.wrap ((a.size : Int) + b.size) = (a.size : Int) + b.size := IntWalk.i64_in _ (by omega)
    have i2 : IntKind.i64.wrap ((a.size : Int) + b.size + 22) = (a.size : Int) + b.size + 22 := IntWalk.i64_in _ (by omega)
    clear hD hyes EA EB HD hb1 hb2' sz
    go_wp2_with fail
    refine (MA.out _).mono ?_
    rintro e w3 ⟨rfl, hb3⟩
    have hB3 := below_trans hb2 hb2.size hb3
    go_wp2_with fail
    refine (MB.out _).mono ?_
    rintro e w4 ⟨rfl, hb4⟩
    have hB4 := below_trans hB3 hB3.size hb4
    go_wp2_with fail
    go_ret
    exact ⟨rfl, hB4⟩
  · have hb2 := below_trans hb1 hb1.size hb2'
    have hxy : (x && y) = false := by
      cases x with
      | false => rfl
      | true => cases y with
        | false => rfl
        | true => exact absurd ⟨EA.out.1 rfl, EB.out.1 rfl⟩ hno
    clear hno EA EB HD hb1 hb2'
    cases x with
    | false =>
      clear hxy
      go_wp2_with fail
      refine (MA.out _).mono ?_
      rintro e w3 ⟨rfl, hb3⟩
      have hB3 := below_trans hb2 hb2.size hb3
      go_wp2_with fail
      go_ret
      exact ⟨rfl, hB3⟩
    | true =>
      obtain rfl : y = false := hxy
      go_wp2_with fail
      refine (MA.out _).mono ?_
      rintro e w3 ⟨rfl, hb3⟩
      have hB3 := below_trans hb2 hb2.size hb3
      go_wp2_with fail
      refine (MB.out _).mono ?_
      rintro e w4 ⟨rfl, hb4⟩
      have hB4 := below_trans hB3 hB3.size hb4
      go_wp2_with fail
      go_ret
      exact ⟨rfl, hB4⟩
end Go.Proofs.Ytdekaaclheoapaa
