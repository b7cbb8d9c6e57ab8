/- Triggers of one rank are in an order: search.Less. -/
import Derived.Test.YtkdknfedieeenaaDoorOrd
import Derived.Test.YtkdknfedieeenaaDoorCs
import Derived.WalkKit
namespace Go.Proofs.YtkdknfedieeenaaDoor
open Go.RowKit
set_option linter.unusedVariables false
set_option linter.unusedSimpArgs false
set_option maxRecDepth 20000
def cmpT (x y : ByteArray × ByteArray) : Int := thenC (cmpS x.1 y.1) (cmpS x.2 y.2)
theorem cmpT_is : IsCmp cmpT := lex_is cmpS_is cmpS_is
/-- Does a name and an address go ahead of others? -/
def lessT (x y : ByteArray × ByteArray) : Bool := decide (cmpT x y < 0)
theorem lessT_self (x : ByteArray × ByteArray) : lessT x x = false := by
  unfold lessT
  rw [cmpT_is.refl]; rfl
theorem lessT_swap {x y : ByteArray × ByteArray} (h : lessT x y = true) : lessT y x = false := by
  unfold lessT at h ⊢
  rw [decide_eq_true_eq] at h
  rw [decide_eq_false_iff_not, cmpT_is.swap x y]; omega
theorem lessT_trans {x y z : ByteArray × ByteArray} (h : lessT x y = true) (h' : lessT y z = true) : lessT x z = true := by
  unfold lessT at h h' ⊢
  rw [decide_eq_true_eq] at h h' ⊢
  have h1 := cmpT_is.trans x y z (by omega) (by omega)
  have h2 : cmpT x z ≠ 0 := by
    intro e
    have := (cmpT_is.zero x z).1 e
    subst this
    have := cmpT_is.swap x y
    omega
  omega
theorem lessT_either (x y : ByteArray × ByteArray) : (lessT x y || lessT y x) = !decide (x = y) := by
  unfold lessT
  have hs := cmpT_is.swap x y
  by_cases h : x = y
  · subst h
    rw [cmpT_is.refl]; simp
  · have h0 : cmpT x y ≠ 0 := fun e => h ((cmpT_is.zero x y).1 e)
    rcases Int.lt_or_gt_of_ne h0 with h1 | h1
    · simp [h, h1]
    · have : cmpT y x < 0 := by omega
      simp [h, this]
theorem lessT_name {n n' a a' : ByteArray} (h : n.toList ≠ n'.toList) : Op.bytesLess n.toList n'.toList = lessT (n, a) (n', a') := by
  unfold lessT cmpT
  rw [less_cmpB]
  have h0 : cmpS n n' ≠ 0 := fun e => h (by rw [(cmpS_is.zero n n').1 e])
  show decide (cmpS n n' < 0) = decide (thenC (cmpS n n') (cmpS a a') < 0)
  unfold thenC
  rw [if_neg h0]
theorem lessT_addr {n n' a a' : ByteArray} (h : n.toList = n'.toList) : Op.bytesLess a.toList a'.toList = lessT (n, a) (n', a') := by
  unfold lessT cmpT
  rw [less_cmpB]
  have h0 : cmpS n n' = 0 := (cmpS_is.zero n n').2 (toList_inj n n' h)
  show decide (cmpS a a' < 0) = decide (thenC (cmpS n n') (cmpS a a') < 0)
  unfold thenC
  rw [if_pos h0]

set_option maxHeartbeats 4000000 in
theorem sless_any (k k' : Int) (n n' a a' : ByteArray) (x x' : Int) (w : World) :
    Calls Tryd.prog 10 #[.agg #[.int .i64 k, .string n, .string a, .int .i64 x], .agg #[.int .i64 k', .string n', .string a', .int .i64 x']] w fun e w' => e = .returned (.bool (lessT (n, a) (n', a'))) ∧ Below w.heap.size w w' := by
  obtain ⟨b, hb⟩ : ∃ b, b = lessT (n, a) (n', a') := ⟨_, rfl⟩
  rw [← hb]
  obtain ⟨W1, hW1⟩ : ∃ W, W = w.alloc (.cells #[.int .i64 k, .string n, .string a, .int .i64 x] 33) := ⟨_, rfl⟩
  obtain ⟨W0, hW0⟩ : ∃ W, W = W1.alloc (.cells #[.int .i64 k', .string n', .string a', .int .i64 x'] 33) := ⟨_, rfl⟩
  have e1 : W1.heap.size = w.heap.size + 1 := by rw [hW1]; simp
  have hA : Cs W0 w.heap.size [.int .i64 k, .string n, .string a, .int .i64 x] := by rw [hW0, hW1]; exact (Cs.new w _ _ _).alloc _
  have hB : Cs W0 (w.heap.size + 1) [.int .i64 k', .string n', .string a', .int .i64 x'] := by rw [hW0]; exact (Cs.new W1 _ _ _).at_ _ e1
  have hbel : Below w.heap.size w W0 := by
    rw [hW0, hW1]
    exact ((Below.refl w.heap.size w).alloc (Nat.le_refl _) _).alloc (by simp) _
  rw [hW1] at hW0
  have HW0 := Lib.hid hW0
  have HBEL := Lib.hid hbel
  have c1 := hA.get 1 (.string n)
  have c2 := hA.get 2 (.string a)
  have d1 := hB.get 1 (.string n')
  have d2 := hB.get 2 (.string a')
  clear hA hB hW0 hW1 e1 hbel
  by_cases h : n.toList = n'.toList
  · have h1 : (n.toList == n'.toList) = true := by rw [h]; simp
    have hl := lessT_addr (a := a) (a' := a') h
    rw [← hb] at hl
    clear hb h
    go_enter Tryd.func10, Tryd.ntmps10
    go_upto_region 1 with fail
    rw [← HW0.out]
    go_wp2_with fail
    go_ret
    exact ⟨rfl, HBEL.out⟩
  · have h1 : (n.toList == n'.toList) = false := by rw [beq_eq_false_iff_ne]; exact h
    have hl := lessT_name (a := a) (a' := a') h
    rw [← hb] at hl
    clear hb h
    go_enter Tryd.func10, Tryd.ntmps10
    go_upto_region 1 with fail
    rw [← HW0.out]
    go_wp2_with fail
    go_ret
    exact ⟨rfl, HBEL.out⟩
end Go.Proofs.YtkdknfedieeenaaDoor
