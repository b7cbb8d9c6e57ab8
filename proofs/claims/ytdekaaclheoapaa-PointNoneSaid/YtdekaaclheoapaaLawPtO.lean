/- The walk of PointNone. -/
import Derived.Test.YtdekaaclheoapaaPtS
import Derived.Test.YtdekaaclheoapaaPtG
namespace Go.Proofs.Ytdekaaclheoapaa
open Go.RowKit
set_option linter.unusedVariables false
set_option maxRecDepth 20000
theorem name_not (w : World) (b : Nat) (s : ByteArray) (hs : s.size ≤ 140737488351232) (hm : (labelsOf s).isSome = false) :
    Calls Try.prog 36 #[.pointer (some ⟨b, 0, none⟩), .string s] w fun e w' => e = .returned (.tuple #[]) ∧ Below w.heap.size w w' := by
  have MA := fun w => may_any s w (by unfold maxLen; omega)
  rw [hm] at MA
  have MA := Lib.hid MA
  clear hm
  go_enter Try.func36, Try.ntmps36
  go_wp2_with fail
  refine (MA.out _).mono ?_
  rintro e w1 ⟨rfl, hb1⟩
  go_wp2_with fail
  refine bodyPost_ret (v := .tuple #[]) (by simp [results, Try.results36, go_sem]) rfl ?_
  exact ⟨rfl, hb1⟩
theorem pto_follows : Try.prog.follows .mixedOrders = true := by kernel_rfl
attribute [local simp] putsF isV wordOf Deps Region.binds Region.wanted Act.put
set_option maxHeartbeats 3200000 in
theorem pointNone_walk (w : World) (s : ByteArray) (hs : s.size ≤ 140737488351232) :
    Calls Try.prog 11 #[.string s] w fun e w' => e = .returned (.bool true) ∧ Below w.heap.size w w' := by
  have MA := Lib.hid (fun w => may_any s w (by unfold maxLen; omega))
  have NN := Lib.hid (fun w b hm => name_not w b s hs hm)
  go_enter Try.func11, Try.ntmps11
  go_wp2_with fail
  refine (awake03 _).mono ?_
  rintro e w1 ⟨rfl, hb1⟩
  go_wp2_with fail
  have hP := Cs.new w1 #[.int .u8 7] 5 [.int .u8 7]
  have hO := OB.fresh (Below.refl w1.heap.size w1) (Nat.le_refl _) #[.int .u8 7] 5 1 ([7].map bv) rfl rfl (by decide)
  have hz1 : (w1.alloc (.cells #[.int .u8 7] 5)).heap.size = w1.heap.size + 1 := by simp
  have hb2 := hb1.alloc hb1.size (.cells #[.int .u8 7] 5)
  generalize w1.alloc (.cells #[.int .u8 7] 5) = W2 at *
  obtain ⟨p, hp⟩ : ∃ p, w1.heap.size = p := ⟨_, rfl⟩
  rw [hp] at hP hO hz1 ⊢
  have HP := Lib.hid hp
  clear hp
  have hC := Cs.new W2 #[.slice (some ⟨p, 0, none⟩) 1 1, .map none] 71 [.slice (some ⟨p, 0, none⟩) 1 1, .map none]
  have hP2 := hP.alloc (.cells #[.slice (some ⟨p, 0, none⟩) 1 1, .map none] 71)
  have hO2 := hO.alloc (.cells #[.slice (some ⟨p, 0, none⟩) 1 1, .map none] 71)
  have hb3 := hb2.alloc hb2.size (.cells #[.slice (some ⟨p, 0, none⟩) 1 1, .map none] 71)
  rw [hz1] at hC
  generalize W2.alloc (.cells #[.slice (some ⟨p, 0, none⟩) 1 1, .map none] 71) = W3 at *
  obtain ⟨b, hb⟩ : ∃ b, p + 1 = b := ⟨_, rfl⟩
  have hpb : p < b := by omega
  rw [hb] at hC ⊢
  clear hb hz1 hP hO hb2
  cases hm : (labelsOf s).isSome with
  | false =>
    have MB := MA.out
    rw [hm] at MB
    have MB := Lib.hid MB
    refine (NN.out _ _ hm).mono ?_
    clear hm MA NN
    rintro e w4 ⟨rfl, hb4'⟩
    have hb4 := below_trans hb3 hb3.size hb4'
    have hC4 := hC.below hb4'
    have hP4 := hP2.below hb4'
    clear hb3 hb4' hC hP2 hO2
    go_wp2_with fail
    refine (MB.out _).mono ?_
    rintro e w5 ⟨rfl, hb5'⟩
    have hb5 := below_trans hb4 hb4.size hb5'
    have hC5 := hC4.below hb5'
    have hP5 := hP4.below hb5'
    clear hb4 hb5' hC4 hP4
    have c0 := hC5.get 0 _
    have q0 := hC5.lt
    have p0 := hP5.get 0 _
    have r0 := hP5.lt
    go_wp2_with fail
    go_ret
    exact ⟨rfl, hb5⟩
  | true =>
    have MB := MA.out
    rw [hm] at MB
    have MB := Lib.hid MB
    obtain ⟨ls, hw, hok, hlen⟩ := mayL_wire ((may_mayL s).1 hm)
    have hs2 : s.size ≤ 254 := by simpa using hlen
    have PL := Lib.hid (fun w => plain_any s w (by omega))
    have hne : (Value.slice (some ⟨p, 0, none⟩) 1 1).ownBlock ≠ some b := by simp [Value.ownBlock]; omega
    refine (name_new _ _ _ _ _ _ _ s ls hw hok hs2 hm hO2 hC (by omega) hne (by decide)).mono ?_
    clear hm MA NN hw hok hlen hne
    rintro e w4 ⟨rfl, v', m, hO4, hC4, -⟩
    obtain ⟨A, c, rfl, -, -, hA⟩ := hO4.slice
    have hb4 : Below w.heap.size w w4 := below_trans hb1 hb1.size (by rw [HP.out]; exact hO4.bel)
    clear hb1 hb3 hC hO2 hP2
    go_wp2_with fail
    refine (MB.out _).mono ?_
    rintro e w5 ⟨rfl, hb5'⟩
    have hb5 := below_trans hb4 hb4.size hb5'
    have hC5 := hC4.below hb5'
    have hO5 := hO4.keep hb5' (Nat.le_refl _)
    clear hb4 hb5' hC4 hO4
    have hO6 : OB p w1 (.slice A (1 + s.size + 1) c) (1 + s.size + 1) (([7] ++ s.data.toList ++ [0]).map bv) w5 := by simpa using hO5
    obtain ⟨J, hJ⟩ : ∃ J, J = ByteArray.mk ([7] ++ s.data.toList ++ [0]).toArray := ⟨_, rfl⟩
    obtain ⟨R, hR0⟩ : ∃ R, R = ByteArray.mk (s.data.toList ++ [0]).toArray := ⟨_, rfl⟩
    have hRs : R.size = s.size + 1 := by rw [hR0, mk_size]; simp
    have heq : (J.toList == (⟨#[7]⟩ ++ R : ByteArray).toList) = true := str_same _ _ (by rw [hJ, hR0]; simp)
    have HQ := Lib.hid heq
    have q9 : ¬ 9223372036854775807 < 1 + R.size := by omega
    have q8 : ¬ 9223372036854775807 < (⟨#[7]⟩ : ByteArray).size + R.size := by show ¬ _ < 1 + R.size; omega
    have PL := PL.out
    unfold sv at PL
    rw [← hR0] at PL
    have PL := Lib.hid PL
    have HJ := Lib.hid hJ
    clear hO5 heq hJ hR0 hRs
    go_upto_region 1 with fail
    have hlt := hC5.lt
    refine wp_region_goes pto_follows w5.heap.size w5
      [isV (.pointer (some ⟨b, 0, none⟩)), isV (.pointer (some ⟨b, 0, none⟩)), isV (.pointer (some ⟨b, 0, none⟩)), isV (.slice A (1 + s.size + 1) c), isV (.string J), isV (.string s), isV (.string R), isV (.string (⟨#[7]⟩ ++ R)), isV (.bool true), isV (.bool true)]
      (by kernel_rfl) (by kernel_rfl) rfl ?_ (Below.refl _ _) ?_ ?_
    · repeat (first | exact trivial | refine ⟨by first | exact isV_stays _, ?_⟩)
    · refine ⟨?_, ?_, ?_, ?_, ?_, ?_, ?_, ?_, ?_, ?_, trivial⟩
      all_goals
        intro x wr hR hd
        simp at hd ⊢
      · go_simp; exact next_same _ rfl rfl hR
      · go_simp; exact next_same _ rfl rfl hR
      · go_simp; exact next_same _ rfl rfl hR
      · have f0 := (hR.cell (p := ⟨b, 0, none⟩) hlt).trans (hC5.get 0 _); go_simp; exact next_same _ rfl rfl hR
      · have hcv := run_string_of (P := Try.prog) wr 22 9 5 _ A _ _ Try.underlying22 Try.underlying5 Try.underlying9 ((hO6.keep hR (Nat.le_refl _)).sl) (fun h => (by have := (hA h).1; omega)) c
        rw [← HJ.out] at hcv
        go_simp
        exact next_same _ rfl rfl hR
      · go_simp; exact next_same _ rfl rfl hR
      · go_simp
        go_at_call 35
        refine (PL.out wr).mono ?_
        rintro e' w6 ⟨rfl, rfl⟩
        exact next_same _ rfl rfl hR
      · go_simp; exact next_same _ rfl rfl hR
      · have heq := HQ.out
        obtain ⟨e4, e7⟩ := hd
        rw [e4, e7]
        go_simp
        exact next_same _ rfl rfl hR
      · go_simp; exact next_same _ rfl rfl hR
    intro x w6 hb6' hx
    simp [AllWords] at hx ⊢
    obtain ⟨-, -, -, -, -, -, -, -, -, h9⟩ := hx
    have hb6 := below_trans hb5 hb5.size hb6'
    rw [h9]
    go_wp2_with fail
    go_ret
    exact ⟨rfl, hb6⟩
end Go.Proofs.Ytdekaaclheoapaa
