/- The walk of OwnerNone. -/
import Derived.Test.YtodpaejakgjblaaDoorOwnN
namespace Go.Proofs.YtodpaejakgjblaaDoor
open Go.RowKit
set_option linter.unusedVariables false
set_option maxRecDepth 20000

theorem enc_len {t : Trig} {n : List UInt8} (h : encR t = some n) : n.length ≤ 254 := by
  unfold encR at h
  split at h
  · simp only [Option.some.injEq] at h
    rw [← h]; exact encN_len t
  · cases h
set_option maxHeartbeats 8000000 in
theorem ownerNone_walk (w : World) (hL : LaidT w) (k : Int) (hk : (Lit.int .i64 k).wf = true) (n : ByteArray) (hn : n.size ≤ 140737488351232) (a : ByteArray) (ha : a.size ≤ 140737488351232) (x : Int) (hx : (Lit.int .i64 x).wf = true) :
    Calls Tryd.prog 7 #[.agg #[.int .i64 k, .string n, .string a, .int .i64 x]] w fun e w' => e = .returned (.bool true) ∧ Below w.heap.size w w' := by
  have hcs := Cs.new w #[.int .i64 k, .string n, .string a, .int .i64 x] 29 [.int .i64 k, .string n, .string a, .int .i64 x]
  have hbel0 : Below w.heap.size w (w.alloc (.cells #[.int .i64 k, .string n, .string a, .int .i64 x] 29)) := (Below.refl _ _).alloc (Nat.le_refl _) _
  have HAW := Lib.hid (fun w h => awake13_any w h)
  have henc := fun w h => encode_any k n a x w (by omega) (by omega) h
  have HCS := Lib.hid hcs
  have HB0 := Lib.hid hbel0
  have HL0 := Lib.hid (hL.alloc (.cells #[.int .i64 k, .string n, .string a, .int .i64 x] 29))
  clear hcs hbel0 hL
  cases hen : encR (toT k n a x) with
  | none =>
    rw [hen] at henc
    have henc : ∀ w, LaidT w → Calls Tryd.prog 21 #[.agg #[.int .i64 k, .string n, .string a, .int .i64 x]] w fun e w' => e = .returned (.tuple #[.string ⟨#[]⟩, .bool false]) ∧ Below w.heap.size w w' := henc
    have HENC := Lib.hid henc
    clear henc hen
    go_enter Tryd.func7, Tryd.ntmps7
    go_wp2_with (go_at_call 14; refine (HAW.out _ HL0.out).mono ?_; rintro e w1 ⟨rfl, hb1⟩; refine Hid.out ?_)
    refine Lib.hid ?_
    have hC1 := HCS.out.below hb1
    have k0 := hC1.get 0 (.int .i64 k)
    have k1 := hC1.get 1 (.string n)
    have k2 := hC1.get 2 (.string a)
    have k3 := hC1.get 3 (.int .i64 x)
    have HL1 := Lib.hid (HL0.out.below hb1 (Nat.le_refl _))
    have HB1 := Lib.hid (HB0.out.trans (hb1.mono HB0.out.size))
    clear hC1 hb1
    go_wp2_with (go_at_call 21; refine (HENC.out _ HL1.out).mono ?_; rintro e w2 ⟨rfl, hb2⟩)
    go_ret
    exact ⟨rfl, HB1.out.trans (hb2.mono HB1.out.size)⟩
  | some N =>
    rw [hen] at henc
    obtain ⟨NB, hNB⟩ : ∃ NB, NB = baL N := ⟨_, rfl⟩
    have henc : ∀ w, LaidT w → Calls Tryd.prog 21 #[.agg #[.int .i64 k, .string n, .string a, .int .i64 x]] w fun e w' => e = .returned (.tuple #[.string NB, .bool true]) ∧ Below w.heap.size w w' := by rw [hNB]; exact henc
    have hdc := fun w h => decode_any NB w (by rw [hNB, show (baL N).size = N.length by simp [baL, ByteArray.size]]; have := enc_len hen; omega) h
    rw [show NB.data.toList = N by rw [hNB]; simp [baL], dec_enc hen] at hdc
    have hdc : ∀ w, LaidT w → Calls Tryd.prog 22 #[.string NB] w fun e w' => e = .returned (.tuple #[.agg #[.int .i64 k, .string n, .string a, .int .i64 x], .bool true]) ∧ Below w.heap.size w w' := by
      intro w h
      have := hdc w h
      have e1 : trigV (some (toT k n a x)) = .tuple #[.agg #[.int .i64 k, .string n, .string a, .int .i64 x], .bool true] := by
        show Value.tuple #[.agg #[.int .i64 k, sv n.data.toList, sv a.data.toList, .int .i64 x], .bool true] = _
        rw [sv_bytes, sv_bytes]
      rw [e1] at this
      exact this
    have hq := fun w => trig_eql k k n n a a x x w
    rw [trigEq_iff, decide_eq_true rfl] at hq
    have HENC := Lib.hid henc
    have HDC := Lib.hid hdc
    clear henc hen hdc hNB
    go_enter Tryd.func7, Tryd.ntmps7
    go_wp2_with (go_at_call 14; refine (HAW.out _ HL0.out).mono ?_; rintro e w1 ⟨rfl, hb1⟩; refine Hid.out ?_)
    refine Lib.hid ?_
    have hC1 := HCS.out.below hb1
    have k0 := hC1.get 0 (.int .i64 k)
    have k1 := hC1.get 1 (.string n)
    have k2 := hC1.get 2 (.string a)
    have k3 := hC1.get 3 (.int .i64 x)
    have HC1 := Lib.hid hC1
    have HL1 := Lib.hid (HL0.out.below hb1 (Nat.le_refl _))
    have HB1 := Lib.hid (HB0.out.trans (hb1.mono HB0.out.size))
    clear hC1 hb1
    go_wp2_with (go_at_call 21; refine (HENC.out _ HL1.out).mono ?_; rintro e w2 ⟨rfl, hb2⟩; refine Hid.out ?_)
    refine Lib.hid ?_
    have HC2 := Lib.hid (HC1.out.below hb2)
    have HL2 := Lib.hid (HL1.out.below hb2 (Nat.le_refl _))
    have HB2 := Lib.hid (HB1.out.trans (hb2.mono HB1.out.size))
    clear hb2 HC1 HL1 HB1 k0 k1 k2 k3
    go_wp2_with (go_at_call 22; refine (HDC.out _ HL2.out).mono ?_; rintro e w3 ⟨rfl, hb3⟩; refine Hid.out ?_)
    refine Lib.hid ?_
    have hC3 := (HC2.out.below hb3).alloc (.cells #[.int .i64 k, .string n, .string a, .int .i64 x] 29)
    have k0 := hC3.get 0 (.int .i64 k)
    have k1 := hC3.get 1 (.string n)
    have k2 := hC3.get 2 (.string a)
    have k3 := hC3.get 3 (.int .i64 x)
    have hB3 := HB2.out.trans (hb3.mono HB2.out.size)
    have HB3 := Lib.hid (hB3.alloc hB3.size (.cells #[.int .i64 k, .string n, .string a, .int .i64 x] 29))
    clear hC3 hB3 hb3 HC2 HL2 HB2
    go_wp2_with fail
    go_ret
    exact ⟨rfl, HB3.out⟩
end Go.Proofs.YtodpaejakgjblaaDoor
