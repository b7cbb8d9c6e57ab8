/- The contracts of layer 14: Of of a CNAME alone, Goal, Over, Same; the statements' targets; the document's examples. -/
import Derived.Test.YtbjbppnjheaecaaActA
import Derived.Test.YtbjbppnjheaecaaNameW
import Derived.Test.YtbjbppnjheaecaaNameM
import Derived.Lib.SliceRun
namespace Go.Proofs.Ytbjbppnjheaecaa
open Go.RowKit
set_option linter.unusedVariables false
set_option maxRecDepth 20000

/-- An action without records. -/
def act3 (k : Int) (s : ByteArray) (b : Bool) : Value := .agg #[.int .i64 k, .string s, .bool b, .slice none 0 0]
theorem clone_recs_nil (w : World) : Calls Try.prog 34 #[.slice none 0 0] w fun e w' => e = .returned (.slice none 0 0) ∧ w = w' := by
  have hq := fun w => Lib.run_eql_slice_nil (P := Try.prog) w 29 _ none 0 0 0 0 Try.underlying29
  go_enter Try.func34, Try.ntmps34
  go_wp2_with fail
  go_ret
  exact ⟨rfl, rfl⟩
/-- The name to which an action rewrites another one. -/
def goalOf (k : Int) (s : ByteArray) (b : Bool) (n : ByteArray) : Option ByteArray := if k = 7 ∧ (labelsOf s).isSome = true then (if b then joinOf n s else some s) else none
set_option maxHeartbeats 1600000 in
theorem goal_any (k : Int) (s : ByteArray) (b : Bool) (n : ByteArray) (w : World) (hs : s.size ≤ 140737488355328) (hn : n.size ≤ 140737488355328) :
    Calls Try.prog 22 #[act3 k s b, .string n] w fun e w' => e = .returned (.tuple #[.string (strOf (goalOf k s b n)), .bool (goalOf k s b n).isSome]) ∧ Below w.heap.size w w' := by
  have MS := Lib.hid (fun w => may_any s w (by unfold maxLen; omega))
  have JO := Lib.hid (fun w => join_any n s w (by unfold maxLen; omega) (by unfold maxLen; omega))
  have hC := Cs.new w #[.int .i64 k, .string s, .bool b, .slice none 0 0] 54 [.int .i64 k, .string s, .bool b, .slice none 0 0]
  unfold act3
  by_cases hk : k = 7
  · subst hk
    cases hm : (labelsOf s).isSome with
    | false =>
      have hg : goalOf 7 s b n = none := by unfold goalOf; rw [if_neg (by rw [hm]; simp)]
      rw [hg]
      rw [hm] at MS
      clear hm hg JO hC
      go_enter Try.func22, Try.ntmps22
      go_wp2_with fail
      refine (MS.out _).mono ?_
      rintro e w1 ⟨rfl, hb1'⟩
      have hb1 := below_alloc _ (Below.refl _ _) (Nat.le_refl _) hb1'
      go_wp2_with fail
      go_ret2
      exact ⟨rfl, hb1⟩
    | true =>
      rw [hm] at MS
      cases b with
      | false =>
        have hg : goalOf 7 s false n = some s := by unfold goalOf; rw [if_pos ⟨rfl, hm⟩]; rfl
        rw [hg]
        clear hm hg JO
        go_enter Try.func22, Try.ntmps22
        go_wp2_with fail
        refine (MS.out _).mono ?_
        rintro e w1 ⟨rfl, hb1'⟩
        have hC1 := hC.below hb1'
        have hb1 := below_alloc _ (Below.refl _ _) (Nat.le_refl _) hb1'
        have c1 := hC1.get 1 _
        have c2 := hC1.get 2 _
        clear hC hC1 hb1'
        go_wp2_with fail
        go_ret2
        exact ⟨rfl, hb1⟩
      | true =>
        have hg : goalOf 7 s true n = joinOf n s := by unfold goalOf; rw [if_pos ⟨rfl, hm⟩]; rfl
        rw [hg]
        clear hm hg
        go_enter Try.func22, Try.ntmps22
        go_wp2_with fail
        refine (MS.out _).mono ?_
        rintro e w1 ⟨rfl, hb1'⟩
        have hC1 := hC.below hb1'
        have hb1 := below_alloc _ (Below.refl _ _) (Nat.le_refl _) hb1'
        have c1 := hC1.get 1 _
        have c2 := hC1.get 2 _
        clear hC hC1 hb1'
        go_wp2_with fail
        refine (JO.out _).mono ?_
        rintro e w2 ⟨rfl, hb2'⟩
        have hb2 := below_trans hb1 hb1.size hb2'
        go_wp2_with fail
        go_ret2
        exact ⟨rfl, hb2⟩
  · have hg : goalOf k s b n = none := by unfold goalOf; rw [if_neg (fun h => hk h.1)]
    have hk1 : (k != 7) = true := by simpa using hk
    rw [hg]
    clear hk hg JO hC MS
    go_enter Try.func22, Try.ntmps22
    go_wp2_with fail
    go_ret2
    exact ⟨rfl, (Below.refl _ _).alloc (Nat.le_refl _) _⟩
set_option maxHeartbeats 3200000 in
theorem target_any (h : Nat) (hh : h < 256) (A : Option Addr) (n c : Nat) (zs : List Int) (w : World) (hA : Sl w w.heap.size 1 A n (zs.map (Value.int .u8))) (hz : ∀ z ∈ zs, 0 ≤ z ∧ z < 256) (hn : n ≤ 140737488355328) :
    Calls Try.prog 37 #[.int .u8 h, .slice A n c] w fun e w' => ∃ s : ByteArray, e = .returned (.string s) ∧ s.size ≤ 84 ∧ mayL s.data.toList ∧ Below w.heap.size w w' := by
  have hr : h % 8 = 0 ∨ h % 8 = 1 ∨ h % 8 = 2 ∨ h % 8 = 3 ∨ h % 8 = 4 ∨ h % 8 = 5 ∨ 6 ≤ h % 8 := by omega
  have NA := Lib.hid (fun (w' : World) (hS : Sl w' w'.heap.size 1 A n (zs.map (Value.int .u8))) => name_any A n c zs w' hS hz (by unfold maxLen; omega))
  have mN := nameZ_may zs hz
  have lN := nameZ_len zs hz
  generalize nameZ zs = X at *
  obtain ⟨N, hN⟩ : ∃ N, N = ByteArray.mk X.toArray := ⟨_, rfl⟩
  have nX : N.data.toList = X := by rw [hN, mk_toList']
  have sN : N.size ≤ 84 := by rw [hN, mk_size]; exact lN
  unfold sv at NA
  rw [← hN] at NA
  rw [← nX] at mN
  have HM := Lib.hid mN
  clear hz mN lN hN nX
  go_enter Try.func37, Try.ntmps37
  go_upto_region 2 with fail
  obtain ⟨W0, hW0⟩ : ∃ W, W = w.alloc (.cells #[] 9) := ⟨_, rfl⟩
  have z0 : W0.heap.size = w.heap.size + 1 := by rw [hW0]; simp
  have b0 : Below w.heap.size w W0 := by rw [hW0]; exact (Below.refl _ _).alloc (Nat.le_refl _) _
  obtain ⟨W1, hW1⟩ : ∃ W, W = W0.alloc (.cells #[.string ⟨#[42]⟩] 9) := ⟨_, rfl⟩
  have z1 : W1.heap.size = w.heap.size + 1 + 1 := by rw [hW1]; simp [z0]
  have k1 : Cs W1 (w.heap.size + 1) [.string ⟨#[42]⟩] := (Cs.new W0 #[.string ⟨#[42]⟩] 9 [.string ⟨#[42]⟩]).at_ _ z0 |> (by rw [hW1]; exact ·)
  have b1 : Below w.heap.size w W1 := by rw [hW1]; exact b0.alloc b0.size _
  obtain ⟨W2, hW2⟩ : ∃ W, W = W1.alloc (.cells #[.string ⟨#[114, 112, 122, 45, 112, 97, 115, 115, 116, 104, 114, 117]⟩] 9) := ⟨_, rfl⟩
  have z2 : W2.heap.size = w.heap.size + 1 + 1 + 1 := by rw [hW2]; simp [z1]
  have k2 : Cs W2 (w.heap.size + 1 + 1) [.string ⟨#[114, 112, 122, 45, 112, 97, 115, 115, 116, 104, 114, 117]⟩] := (Cs.new W1 #[.string ⟨#[114, 112, 122, 45, 112, 97, 115, 115, 116, 104, 114, 117]⟩] 9 [.string ⟨#[114, 112, 122, 45, 112, 97, 115, 115, 116, 104, 114, 117]⟩]).at_ _ z1 |> (by rw [hW2]; exact ·)
  have k1 : Cs W2 (w.heap.size + 1) [.string ⟨#[42]⟩] := by rw [hW2]; exact k1.alloc _
  have b2 : Below w.heap.size w W2 := by rw [hW2]; exact b1.alloc b1.size _
  obtain ⟨W3, hW3⟩ : ∃ W, W = W2.alloc (.cells #[.string ⟨#[114, 112, 122, 45, 100, 114, 111, 112]⟩] 9) := ⟨_, rfl⟩
  have z3 : W3.heap.size = w.heap.size + 1 + 1 + 1 + 1 := by rw [hW3]; simp [z2]
  have k3 : Cs W3 (w.heap.size + 1 + 1 + 1) [.string ⟨#[114, 112, 122, 45, 100, 114, 111, 112]⟩] := (Cs.new W2 #[.string ⟨#[114, 112, 122, 45, 100, 114, 111, 112]⟩] 9 [.string ⟨#[114, 112, 122, 45, 100, 114, 111, 112]⟩]).at_ _ z2 |> (by rw [hW3]; exact ·)
  have k1 : Cs W3 (w.heap.size + 1) [.string ⟨#[42]⟩] := by rw [hW3]; exact k1.alloc _
  have k2 : Cs W3 (w.heap.size + 1 + 1) [.string ⟨#[114, 112, 122, 45, 112, 97, 115, 115, 116, 104, 114, 117]⟩] := by rw [hW3]; exact k2.alloc _
  have b3 : Below w.heap.size w W3 := by rw [hW3]; exact b2.alloc b2.size _
  obtain ⟨W4, hW4⟩ : ∃ W, W = W3.alloc (.cells #[.string ⟨#[114, 112, 122, 45, 116, 99, 112, 45, 111, 110, 108, 121]⟩] 9) := ⟨_, rfl⟩
  have z4 : W4.heap.size = w.heap.size + 1 + 1 + 1 + 1 + 1 := by rw [hW4]; simp [z3]
  have k4 : Cs W4 (w.heap.size + 1 + 1 + 1 + 1) [.string ⟨#[114, 112, 122, 45, 116, 99, 112, 45, 111, 110, 108, 121]⟩] := (Cs.new W3 #[.string ⟨#[114, 112, 122, 45, 116, 99, 112, 45, 111, 110, 108, 121]⟩] 9 [.string ⟨#[114, 112, 122, 45, 116, 99, 112, 45, 111, 110, 108, 121]⟩]).at_ _ z3 |> (by rw [hW4]; exact ·)
  have k1 : Cs W4 (w.heap.size + 1) [.string ⟨#[42]⟩] := by rw [hW4]; exact k1.alloc _
  have k2 : Cs W4 (w.heap.size + 1 + 1) [.string ⟨#[114, 112, 122, 45, 112, 97, 115, 115, 116, 104, 114, 117]⟩] := by rw [hW4]; exact k2.alloc _
  have k3 : Cs W4 (w.heap.size + 1 + 1 + 1) [.string ⟨#[114, 112, 122, 45, 100, 114, 111, 112]⟩] := by rw [hW4]; exact k3.alloc _
  have b4 : Below w.heap.size w W4 := by rw [hW4]; exact b3.alloc b3.size _
  obtain ⟨W5, hW5⟩ : ∃ W, W = W4.alloc (.cells #[.string ⟨#[42]⟩, .string ⟨#[111, 114, 103]⟩] 9) := ⟨_, rfl⟩
  have z5 : W5.heap.size = w.heap.size + 1 + 1 + 1 + 1 + 1 + 1 := by rw [hW5]; simp [z4]
  have k5 : Cs W5 (w.heap.size + 1 + 1 + 1 + 1 + 1) [.string ⟨#[42]⟩, .string ⟨#[111, 114, 103]⟩] := (Cs.new W4 #[.string ⟨#[42]⟩, .string ⟨#[111, 114, 103]⟩] 9 [.string ⟨#[42]⟩, .string ⟨#[111, 114, 103]⟩]).at_ _ z4 |> (by rw [hW5]; exact ·)
  have k1 : Cs W5 (w.heap.size + 1) [.string ⟨#[42]⟩] := by rw [hW5]; exact k1.alloc _
  have k2 : Cs W5 (w.heap.size + 1 + 1) [.string ⟨#[114, 112, 122, 45, 112, 97, 115, 115, 116, 104, 114, 117]⟩] := by rw [hW5]; exact k2.alloc _
  have k3 : Cs W5 (w.heap.size + 1 + 1 + 1) [.string ⟨#[114, 112, 122, 45, 100, 114, 111, 112]⟩] := by rw [hW5]; exact k3.alloc _
  have k4 : Cs W5 (w.heap.size + 1 + 1 + 1 + 1) [.string ⟨#[114, 112, 122, 45, 116, 99, 112, 45, 111, 110, 108, 121]⟩] := by rw [hW5]; exact k4.alloc _
  have b5 : Below w.heap.size w W5 := by rw [hW5]; exact b4.alloc b4.size _
  obtain ⟨W6, hW6⟩ : ∃ W, W = W5.alloc (.cells #[.slice (some ⟨w.heap.size, 0, none⟩) 0 0, .slice (some ⟨w.heap.size + 1, 0, none⟩) 1 1, .slice (some ⟨w.heap.size + 1 + 1, 0, none⟩) 1 1, .slice (some ⟨w.heap.size + 1 + 1 + 1, 0, none⟩) 1 1, .slice (some ⟨w.heap.size + 1 + 1 + 1 + 1, 0, none⟩) 1 1, .slice (some ⟨w.heap.size + 1 + 1 + 1 + 1 + 1, 0, none⟩) 2 2] 40) := ⟨_, rfl⟩
  have z6 : W6.heap.size = w.heap.size + 1 + 1 + 1 + 1 + 1 + 1 + 1 := by rw [hW6]; simp [z5]
  have k6 : Cs W6 (w.heap.size + 1 + 1 + 1 + 1 + 1 + 1) [.slice (some ⟨w.heap.size, 0, none⟩) 0 0, .slice (some ⟨w.heap.size + 1, 0, none⟩) 1 1, .slice (some ⟨w.heap.size + 1 + 1, 0, none⟩) 1 1, .slice (some ⟨w.heap.size + 1 + 1 + 1, 0, none⟩) 1 1, .slice (some ⟨w.heap.size + 1 + 1 + 1 + 1, 0, none⟩) 1 1, .slice (some ⟨w.heap.size + 1 + 1 + 1 + 1 + 1, 0, none⟩) 2 2] := (Cs.new W5 #[.slice (some ⟨w.heap.size, 0, none⟩) 0 0, .slice (some ⟨w.heap.size + 1, 0, none⟩) 1 1, .slice (some ⟨w.heap.size + 1 + 1, 0, none⟩) 1 1, .slice (some ⟨w.heap.size + 1 + 1 + 1, 0, none⟩) 1 1, .slice (some ⟨w.heap.size + 1 + 1 + 1 + 1, 0, none⟩) 1 1, .slice (some ⟨w.heap.size + 1 + 1 + 1 + 1 + 1, 0, none⟩) 2 2] 40 [.slice (some ⟨w.heap.size, 0, none⟩) 0 0, .slice (some ⟨w.heap.size + 1, 0, none⟩) 1 1, .slice (some ⟨w.heap.size + 1 + 1, 0, none⟩) 1 1, .slice (some ⟨w.heap.size + 1 + 1 + 1, 0, none⟩) 1 1, .slice (some ⟨w.heap.size + 1 + 1 + 1 + 1, 0, none⟩) 1 1, .slice (some ⟨w.heap.size + 1 + 1 + 1 + 1 + 1, 0, none⟩) 2 2]).at_ _ z5 |> (by rw [hW6]; exact ·)
  have k1 : Cs W6 (w.heap.size + 1) [.string ⟨#[42]⟩] := by rw [hW6]; exact k1.alloc _
  have k2 : Cs W6 (w.heap.size + 1 + 1) [.string ⟨#[114, 112, 122, 45, 112, 97, 115, 115, 116, 104, 114, 117]⟩] := by rw [hW6]; exact k2.alloc _
  have k3 : Cs W6 (w.heap.size + 1 + 1 + 1) [.string ⟨#[114, 112, 122, 45, 100, 114, 111, 112]⟩] := by rw [hW6]; exact k3.alloc _
  have k4 : Cs W6 (w.heap.size + 1 + 1 + 1 + 1) [.string ⟨#[114, 112, 122, 45, 116, 99, 112, 45, 111, 110, 108, 121]⟩] := by rw [hW6]; exact k4.alloc _
  have k5 : Cs W6 (w.heap.size + 1 + 1 + 1 + 1 + 1) [.string ⟨#[42]⟩, .string ⟨#[111, 114, 103]⟩] := by rw [hW6]; exact k5.alloc _
  have b6 : Below w.heap.size w W6 := by rw [hW6]; exact b5.alloc b5.size _
  rw [← hW0, ← hW1, ← hW2, ← hW3, ← hW4, ← hW5, ← hW6]
  clear hW0 hW1 hW2 hW3 hW4 hW5 hW6 z0 z1 z2 z3 z4 z5 b0 b1 b2 b3 b4 b5
  rcases hr with hr | hr | hr | hr | hr | hr | hr
  · have hi : (h : Int) % 8 = 0 := by omega
    have c6 := k6.get 0 _
    have MK := Lib.hid (make_any (some ⟨w.heap.size, 0, none⟩) 0 0 ([] : List ByteArray) W6 (Sl.nil _ _ _ _) (by intro t ht; simp at ht) (by decide))
    rw [show nameOf ([] : List ByteArray) = [] by decide +kernel] at MK
    unfold sv at MK
    clear hr k1 k2 k3 k4 k5 k6 NA HM
    go_wp2_with fail
    refine MK.out.mono ?_
    rintro e w1 ⟨rfl, hb1'⟩
    have hb1 := below_trans b6 b6.size hb1'
    go_wp2_with fail
    go_ret
    exact ⟨⟨#[]⟩, rfl, by decide, by unfold mayL; decide +kernel, hb1⟩
  · have hi : (h : Int) % 8 = 1 := by omega
    have c6 := k6.get 1 _
    have MK := Lib.hid (make_any (some ⟨w.heap.size + 1, 0, none⟩) 1 1 [⟨#[42]⟩] W6 (k1.sl) (by intro t ht; simp at ht; subst ht; decide) (by decide))
    rw [show nameOf [⟨#[42]⟩] = [1, 42] by decide +kernel] at MK
    unfold sv at MK
    clear hr k1 k2 k3 k4 k5 k6 NA HM
    go_wp2_with fail
    refine MK.out.mono ?_
    rintro e w1 ⟨rfl, hb1'⟩
    have hb1 := below_trans b6 b6.size hb1'
    go_wp2_with fail
    go_ret
    exact ⟨⟨#[1, 42]⟩, rfl, by decide, by unfold mayL; decide +kernel, hb1⟩
  · have hi : (h : Int) % 8 = 2 := by omega
    have c6 := k6.get 2 _
    have MK := Lib.hid (make_any (some ⟨w.heap.size + 1 + 1, 0, none⟩) 1 1 [⟨#[114, 112, 122, 45, 112, 97, 115, 115, 116, 104, 114, 117]⟩] W6 (k2.sl) (by intro t ht; simp at ht; subst ht; decide) (by decide))
    rw [show nameOf [⟨#[114, 112, 122, 45, 112, 97, 115, 115, 116, 104, 114, 117]⟩] = [12, 114, 112, 122, 45, 112, 97, 115, 115, 116, 104, 114, 117] by decide +kernel] at MK
    unfold sv at MK
    clear hr k1 k2 k3 k4 k5 k6 NA HM
    go_wp2_with fail
    refine MK.out.mono ?_
    rintro e w1 ⟨rfl, hb1'⟩
    have hb1 := below_trans b6 b6.size hb1'
    go_wp2_with fail
    go_ret
    exact ⟨⟨#[12, 114, 112, 122, 45, 112, 97, 115, 115, 116, 104, 114, 117]⟩, rfl, by decide, by unfold mayL; decide +kernel, hb1⟩
  · have hi : (h : Int) % 8 = 3 := by omega
    have c6 := k6.get 3 _
    have MK := Lib.hid (make_any (some ⟨w.heap.size + 1 + 1 + 1, 0, none⟩) 1 1 [⟨#[114, 112, 122, 45, 100, 114, 111, 112]⟩] W6 (k3.sl) (by intro t ht; simp at ht; subst ht; decide) (by decide))
    rw [show nameOf [⟨#[114, 112, 122, 45, 100, 114, 111, 112]⟩] = [8, 114, 112, 122, 45, 100, 114, 111, 112] by decide +kernel] at MK
    unfold sv at MK
    clear hr k1 k2 k3 k4 k5 k6 NA HM
    go_wp2_with fail
    refine MK.out.mono ?_
    rintro e w1 ⟨rfl, hb1'⟩
    have hb1 := below_trans b6 b6.size hb1'
    go_wp2_with fail
    go_ret
    exact ⟨⟨#[8, 114, 112, 122, 45, 100, 114, 111, 112]⟩, rfl, by decide, by unfold mayL; decide +kernel, hb1⟩
  · have hi : (h : Int) % 8 = 4 := by omega
    have c6 := k6.get 4 _
    have MK := Lib.hid (make_any (some ⟨w.heap.size + 1 + 1 + 1 + 1, 0, none⟩) 1 1 [⟨#[114, 112, 122, 45, 116, 99, 112, 45, 111, 110, 108, 121]⟩] W6 (k4.sl) (by intro t ht; simp at ht; subst ht; decide) (by decide))
    rw [show nameOf [⟨#[114, 112, 122, 45, 116, 99, 112, 45, 111, 110, 108, 121]⟩] = [12, 114, 112, 122, 45, 116, 99, 112, 45, 111, 110, 108, 121] by decide +kernel] at MK
    unfold sv at MK
    clear hr k1 k2 k3 k4 k5 k6 NA HM
    go_wp2_with fail
    refine MK.out.mono ?_
    rintro e w1 ⟨rfl, hb1'⟩
    have hb1 := below_trans b6 b6.size hb1'
    go_wp2_with fail
    go_ret
    exact ⟨⟨#[12, 114, 112, 122, 45, 116, 99, 112, 45, 111, 110, 108, 121]⟩, rfl, by decide, by unfold mayL; decide +kernel, hb1⟩
  · have hi : (h : Int) % 8 = 5 := by omega
    have c6 := k6.get 5 _
    have MK := Lib.hid (make_any (some ⟨w.heap.size + 1 + 1 + 1 + 1 + 1, 0, none⟩) 2 2 [⟨#[42]⟩, ⟨#[111, 114, 103]⟩] W6 (k5.sl) (by intro t ht; simp at ht; rcases ht with rfl | rfl <;> decide) (by decide))
    rw [show nameOf [⟨#[42]⟩, ⟨#[111, 114, 103]⟩] = [1, 42, 3, 111, 114, 103] by decide +kernel] at MK
    unfold sv at MK
    clear hr k1 k2 k3 k4 k5 k6 NA HM
    go_wp2_with fail
    refine MK.out.mono ?_
    rintro e w1 ⟨rfl, hb1'⟩
    have hb1 := below_trans b6 b6.size hb1'
    go_wp2_with fail
    go_ret
    exact ⟨⟨#[1, 42, 3, 111, 114, 103]⟩, rfl, by decide, by unfold mayL; decide +kernel, hb1⟩
  · have hi : ¬ (h : Int) % 8 < 6 := by omega
    clear hr k1 k2 k3 k4 k5 k6
    go_wp2_with fail
    refine (NA.out _ ((hA.below b6).more b6.size)).mono ?_
    rintro e w1 ⟨rfl, hb1'⟩
    have hb1 := below_trans b6 b6.size hb1'
    go_wp2_with fail
    go_ret
    exact ⟨N, rfl, sN, HM.out, hb1⟩
end Go.Proofs.Ytbjbppnjheaecaa
