/- point's Writer: Name of what is known; the document's example. -/
import Derived.Test.YtliofipccicnfaaPtN
import Derived.Test.YtliofipccicnfaaPtR
namespace Go.Proofs.Ytliofipccicnfaa
open Go.RowKit
set_option linter.unusedVariables false
set_option maxRecDepth 20000
set_option maxHeartbeats 1600000 in
theorem name_second (w W : World) (B b g : Nat) (v : Value) (l : List Value) (hW : Wr W B b g v 5 l [(⟨#[1, 97, 1, 98]⟩, .int .i64 0), (⟨#[1, 98]⟩, .int .i64 2)] w) :
    Calls Try.prog 11 #[.pointer (some ⟨b, 0, none⟩), .string ⟨#[1, 98]⟩] w fun e w' => e = .returned (.tuple #[]) ∧ ∃ v', OB B W v' 7 (l ++ [bv 192, bv 2]) w' ∧ Cs w' b [v', .map (some g)] ∧ v'.ownBlock ≠ some b := by
  go_enter Try.func11, Try.ntmps11
  go_wp2_with fail
  refine (may_b _).mono ?_
  rintro e w1 ⟨rfl, hb1⟩
  go_wp2_with fail
  have hW1 := hW.keep hb1
  go_loopw [1] (fun nv wr => nv = .string ⟨#[1, 98]⟩ ∧ wr = w1) (fun nv _ => match nv with | .string s => s.size | _ => 0)
  case atStart => exact ⟨rfl, rfl⟩
  case round =>
    obtain ⟨rfl, rfl⟩ := hrel
    obtain ⟨A0, c0', rfl, -⟩ := hW1.ob.slice
    have c0 := hW1.cs.get 0 _
    have c1 := hW1.cs.get 1 _
    have f0 := hW1.cs.froz 0 (by simp)
    have q1 := hW1.cs.lt
    have hlk : (Instr.lookup 31 (.map (some g)) (.string ⟨#[1, 98]⟩) true).run Try.prog wr = .ok (.tuple #[.int .i64 2, .bool true]) wr :=
      hW1.sm.lookup (P := Try.prog) (k := 23) (e := 3) (by kernel_rfl) (by kernel_rfl) (z := .int .i64 0) (by kernel_rfl) ⟨#[1, 98]⟩
    obtain ⟨i0, hib, hz0, hz1, hz2⟩ := info_parts byte_info
    have hob := hW1.ob.alloc (.cells #[.int .u8 192, .int .u8 2] 5)
    have hsrc := Src.ofSlice (P := Try.prog) (size := 1) (wr.alloc (.cells #[.int .u8 192, .int .u8 2] 5)) Try.underlying30 ⟨wr.heap.size, 0, none⟩ 2 2 [.int .u8 192, .int .u8 2] rfl (news_at wr #[.int .u8 192, .int .u8 2] 5) (by intro u hu; simp at hu; rcases hu with rfl | rfl <;> rfl)
    go_wp2_with (at_builtin; go_loud (refine wpList_append_ob rfl _ _ 30 30 rfl 5 i0 _ 1 Try.underlying30 hib hz0 hz1 hz2 rfl hob rfl rfl hsrc (by decide) (by decide) ?_))
    intro v' w' h1 h2 h3 h4
    have hb' := hW1.bg
    have hc := hW1.cs
    have hgl := hW1.sm.lt
    obtain ⟨A1, c1', rfl, -⟩ := h1.slice
    have hz : (wr.alloc (.cells #[.int .u8 192, .int .u8 2] 5)).heap.size = wr.heap.size + 1 := by simp
    have eb := (h3 b (by omega) (fun e => hW1.nb e.symm)).trans (Below.heap_alloc wr _ b q1)
    have hc2 : Cs w' b [.slice A0 5 c0', .map (some g)] := ⟨by omega, fun i hi => ⟨(World.cell?_of_block (w := wr) eb).trans (hc.2 i hi).1, (World.frozen?_of_block (w := wr) eb).trans (hc.2 i hi).2⟩⟩
    have k0 := hc2.get 0 _
    have j0 := hc2.froz 0 (by simp)
    have nb : (Value.slice A1 7 c1').ownBlock ≠ some b := by
      rcases h4 with e | e
      · rw [e]; exact hW1.nb
      · rw [e]; intro e2; injection e2 with e2; omega
    have hkk : ∀ k, k ≠ b → (w'.setCell ⟨b, 0, none⟩ (.slice A1 7 c1')).heap[k]? = w'.heap[k]? := fun k hk => Below.heap_setCell w' ⟨b, 0, none⟩ _ k hk
    have hfin : OB B W (.slice A1 7 c1') 7 (l ++ [bv 192, bv 2]) (w'.setCell ⟨b, 0, none⟩ (.slice A1 7 c1')) ∧ Cs (w'.setCell ⟨b, 0, none⟩ (.slice A1 7 c1')) b [.slice A1 7 c1', .map (some g)] :=
      ⟨h1.block (h1.bel.setCell (p := ⟨b, 0, none⟩) hW1.base _) (by simp) (fun k e => hkk k (fun e2 => nb (by rw [e, e2]))), hc2.set0⟩
    have HF := Lib.hid hfin
    have HN := Lib.hid nb
    clear hfin nb
    go_wp2
    refine bodyPost_ret (v := .tuple #[]) (by simp [results, Try.results11, go_sem]) rfl ?_
    exact ⟨rfl, _, HF.out.1, HF.out.2, HN.out⟩
set_option maxHeartbeats 1600000 in
theorem awake03 (w : World) : Calls Try.prog 6 #[] w fun e w' => e = .returned (.bool true) ∧ Below w.heap.size w w' := by
  go_enter Try.func6, Try.ntmps6
  go_wp2_with fail
  have hC := Cs.new w #[.slice none 0 0, .map none] 33 [.slice none 0 0, .map none]
  have hb1 : Below w.heap.size w (w.alloc (.cells #[.slice none 0 0, .map none] 33)) := (Below.refl _ _).alloc (Nat.le_refl _) _
  have hz1 : (w.alloc (.cells #[.slice none 0 0, .map none] 33)).heap.size = w.heap.size + 1 := by simp
  generalize hW1 : w.alloc (.cells #[.slice none 0 0, .map none] 33) = W1 at *
  obtain ⟨b, hb⟩ : ∃ b, w.heap.size = b := ⟨_, rfl⟩
  have HB := Lib.hid hb
  rw [hb] at hC ⊢
  clear hW1 hb
  refine (name_first W1 b hC).mono ?_
  rintro e w2 ⟨rfl, v, g, hW⟩
  go_wp2_with fail
  refine (name_second _ _ _ _ _ _ _ hW).mono ?_
  rintro e w3 ⟨rfl, v', hO, hC3, hv⟩
  obtain ⟨A, c, rfl, -, -, hA⟩ := hO.slice
  have c0 := hC3.get 0 _
  have q0 := hC3.lt
  have hcv0 := run_string_of (P := Try.prog) w3 30 9 5 _ A 7 [1, 97, 1, 98, 0, 192, 2] Try.underlying30 Try.underlying5 Try.underlying9 hO.sl (fun h => (hA h).1) c
  go_wp2_with fail
  clear hcv0
  have hO0 : OB b W1 (.slice A 7 c) 7 ([1, 97, 1, 98, 0, 192, 2].map bv) w3 := hO
  clear hO
  refine (read03 _).mono ?_
  rintro e w4 ⟨rfl, hb4⟩
  have hO4 := hO0.keep hb4 (Nat.le_refl _)
  have hC4 := hC3.below hb4
  have d0 := hC4.get 0 _
  have q4 := hC4.lt
  have hcv0 := run_string_of (P := Try.prog) w4 30 9 5 _ A 7 [1, 97, 1, 98, 0, 192, 2] Try.underlying30 Try.underlying5 Try.underlying9 hO4.sl (fun h => (hA h).1) c
  have hbel := hO4.bel
  clear hO4 hC4 hC3 hO0 c0 q0 hb4
  go_wp2_with fail
  go_ret
  exact ⟨rfl, hb1.trans (hbel.mono (by have := HB.out; omega))⟩
end Go.Proofs.Ytliofipccicnfaa
