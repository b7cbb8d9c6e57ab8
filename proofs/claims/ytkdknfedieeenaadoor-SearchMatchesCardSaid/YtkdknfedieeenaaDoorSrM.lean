/- The contract of search.Matches. -/
import Derived.Test.YtkdknfedieeenaaDoorSrL
import Derived.Test.YtkdknfedieeenaaDoorNameF
import Derived.Test.YtkdknfedieeenaaDoorPfxB
namespace Go.Proofs.YtkdknfedieeenaaDoor
open Go.RowKit
set_option linter.unusedVariables false
set_option linter.unusedSimpArgs false
set_option maxRecDepth 20000

/-- What the closures of Matches tell of a trigger in a box. -/
theorem sis_any (s : ByteArray) (g : Nat) (k : Int) (n a : ByteArray) (x : Int) (w : World) (hC : Cs w g [.int .i64 k, .string n, .string a, .int .i64 x]) :
    Calls Tryd.prog 17 #[.string s, .pointer (some ⟨g, 0, none⟩)] w fun e w' => e = .returned (.bool (s.toList == n.toList)) ∧ w' = w := by
  have c1 := hC.get 1 (.string n)
  clear hC
  go_enter Tryd.func17, Tryd.ntmps17
  go_wp2_with fail
  go_ret
  exact ⟨rfl, rfl⟩
theorem shas_any (s : ByteArray) (g : Nat) (k : Int) (n a : ByteArray) (x : Int) (w : World) (hs : s.size ≤ 140737488355328) (hC : Cs w g [.int .i64 k, .string n, .string a, .int .i64 x]) :
    Calls Tryd.prog 15 #[.string s, .pointer (some ⟨g, 0, none⟩)] w fun e w' => e = .returned (.bool (hasB a x s)) ∧ Below w.heap.size w w' := by
  have c2 := hC.get 2 (.string a)
  have c3 := hC.get 3 (.int .i64 x)
  clear hC
  go_enter Tryd.func15, Tryd.ntmps15
  go_wp2_with (go_at_call 16; refine (has_any a x s _ hs).mono ?_; rintro e w1 ⟨rfl, hb⟩)
  go_ret
  exact ⟨rfl, hb⟩
theorem sbelow_any (s : ByteArray) (g : Nat) (k : Int) (n a : ByteArray) (x : Int) (w : World) (hs : s.size ≤ maxLen) (hn : n.size ≤ maxLen) (hC : Cs w g [.int .i64 k, .string n, .string a, .int .i64 x]) :
    Calls Tryd.prog 18 #[.string s, .pointer (some ⟨g, 0, none⟩)] w fun e w' => e = .returned (.bool (!(s.toList == n.toList) && (stripOf s n).isSome)) ∧ Below w.heap.size w w' := by
  have c1 := hC.get 1 (.string n)
  clear hC
  cases he : s.toList == n.toList with
  | true =>
    go_enter Tryd.func18, Tryd.ntmps18
    go_wp2_with fail
    go_ret
    exact ⟨rfl, Below.refl _ _⟩
  | false =>
    go_enter Tryd.func18, Tryd.ntmps18
    go_wp2_with (go_at_call 19; refine (below_any s n _ hs hn).mono ?_; rintro e w1 ⟨rfl, hb⟩)
    go_ret
    exact ⟨by simp, hb⟩

set_option maxHeartbeats 8000000 in
theorem smatch_qname (n a : ByteArray) (x : Int) (C N : ByteArray) (As Ss Hs : Value) (A1 A2 A3 : Option Addr) (n1 c1 n2 c2 n3 c3 : Nat) (w : World) :
    Calls Tryd.prog 7 #[.agg #[.int .i64 1, .string n, .string a, .int .i64 x], .agg #[.string C, .string N, .slice A1 n1 c1, .slice A2 n2 c2, .slice A3 n3 c3]] w fun e w' => e = .returned (.bool (N.toList == n.toList)) ∧ Below w.heap.size w w' := by
  obtain ⟨W1, hW1⟩ : ∃ W, W = w.alloc (.cells #[.int .i64 1, .string n, .string a, .int .i64 x] 33) := ⟨_, rfl⟩
  obtain ⟨W0, hW0⟩ : ∃ W, W = W1.alloc (.cells #[.string C, .string N, .slice A1 n1 c1, .slice A2 n2 c2, .slice A3 n3 c3] 37) := ⟨_, rfl⟩
  have e1 : W1.heap.size = w.heap.size + 1 := by rw [hW1]; simp
  have hA : Cs W0 w.heap.size [.int .i64 1, .string n, .string a, .int .i64 x] := by rw [hW0, hW1]; exact (Cs.new w _ _ _).alloc _
  have hB : Cs W0 (w.heap.size + 1) [.string C, .string N, .slice A1 n1 c1, .slice A2 n2 c2, .slice A3 n3 c3] := by rw [hW0]; exact (Cs.new W1 _ _ _).at_ _ e1
  have hbel : Below w.heap.size w W0 := by
    rw [hW0, hW1]
    exact ((Below.refl w.heap.size w).alloc (Nat.le_refl _) _).alloc (by simp) _
  rw [hW1] at hW0
  have HW0 := Lib.hid hW0
  have HBEL := Lib.hid hbel
  have c0 := hA.get 0 (.int .i64 1)
  have c1' := hA.get 1 (.string n)
  have d1 := hB.get 1 (.string N)
  have HA := Lib.hid hA
  clear hA hB hW0 hW1 e1 hbel
  go_enter Tryd.func7, Tryd.ntmps7
  go_upto_region 1 with fail
  rw [← HW0.out]
  go_wp2_with (go_at_call 17; refine (sis_any N _ 1 n a x _ HA.out).mono ?_; rintro e w1 ⟨rfl, rfl⟩)
  go_ret
  exact ⟨rfl, HBEL.out⟩
end Go.Proofs.YtkdknfedieeenaaDoor
