/- The walk of RankOther. -/
import Derived.Test.YtioichenjoeonaaRankB
import Derived.Test.YtioichenjoeonaaTrigA
import Derived.Test.YtioichenjoeonaaView
namespace Go.Proofs.Ytioichenjoeonaa
open Go.RowKit
set_option linter.unusedVariables false

theorem rk_wire_len (ls : List (List UInt8)) : ls.length ≤ (wire ls).length := by
  induction ls with
  | nil => simp
  | cons a l ih => rw [wire_cons]; simp; omega
theorem rk_labels_len (s : ByteArray) : (labelsL s).length ≤ 254 := by
  unfold labelsL
  cases h : labelsOf s with
  | none => simp
  | some ls =>
    have h1 := (nameLabels_iff _ _).1 h
    have h3 := rk_wire_len ls
    rw [← h1.2.1] at h3
    simp only [Option.getD_some]
    omega
theorem rk_name_len (ts : List ByteArray) : (nameOf ts).length ≤ 254 := by
  unfold nameOf makeOf makeL
  split
  · rename_i h; exact h.2
  · simp
theorem rk_zone (z : Int) (h0 : -128 ≤ z) (h1 : z ≤ 127) : FloatKind.f64.format.order (floatOfInt .f64 z) (floatOfInt .f64 z) = some .eq := by
  have h : ∀ i : Fin 256, FloatKind.f64.format.order (floatOfInt .f64 ((i.val : Int) - 128)) (floatOfInt .f64 ((i.val : Int) - 128)) = some .eq := by decide +kernel
  have := h ⟨(z + 128).toNat, by omega⟩
  simp only at this
  rwa [show (((z + 128).toNat : Nat) : Int) - 128 = z by omega] at this
theorem rk_across (x : Int) (h0 : 0 ≤ x) (h1 : x < 1792) : FloatKind.f64.format.order (floatOfInt .f64 x) 4655596114794250240 = some .lt := by
  have h : ∀ i : Fin 1792, FloatKind.f64.format.order (floatOfInt .f64 (i.val : Int)) 4655596114794250240 = some .lt := by decide +kernel
  have := h ⟨x.toNat, by omega⟩
  simp only at this
  rwa [show ((x.toNat : Nat) : Int) = x by omega] at this
set_option maxHeartbeats 1600000 in
theorem rankOther_walk (w : World) (zone : Int) (hzw : (Lit.int .i8 zone).wf = true) (kind : Int) (hkw : (Lit.int .i64 kind).wf = true) (A : Option Addr) (n c : Nat) (zs : List Int) (hV : SlView w A n c (zs.map (Value.int .u8))) (hl : zs.length = n) (hz : ∀ z ∈ zs, (Lit.int .u8 z).wf = true) (hc : c ≤ 140737488351232) :
    Calls Try.prog 12 #[.int .i8 zone, .int .i64 kind, .slice A n c] w fun e w' => e = .returned (.bool true) ∧ Below w.heap.size w w' := by
  obtain ⟨l, hzl⟩ := bytes_of zs hz
  rw [hzl] at hV
  have hnc := hV.le
  have hS : Sl w w.heap.size 1 A n (l.map bv) := hV.sl
  have hz8 := bounds_i8 hzw
  clear hzl hz hl hV hzw hkw
  obtain ⟨nm, hnm⟩ : ∃ nm : ByteArray, sv (nameOf (wordsT 1 l)) = .string nm ∧ nm.size ≤ 254 := ⟨_, rfl, by rw [mk_size]; exact rk_name_len _⟩
  have HT := Lib.hid (fun (w' : World) (h : Sl w' w'.heap.size 1 A n (l.map bv)) => trigger_name 1 1 (by decide) rfl (.inl rfl) A n c l false 0 w' h (by omega))
  rw [show ((1 : Nat) : Int) = 1 from rfl, hnm.1] at HT
  have hlen : lenT nm ⟨#[]⟩ 0 = ((labelsL nm).length : Int) := by unfold lenT; exact if_pos rfl
  have h254 := rk_labels_len nm
  have hof := fun w => of_any zone kind nm ⟨#[]⟩ 0 w (by unfold maxLen; omega) (by omega) (by omega)
  have hzz := rk_zone zone hz8.1 hz8.2
  have h17 : FloatKind.f64.format.order 4655596114794250240 4655596114794250240 = some .eq := by decide +kernel
  have hac : (0 ≤ kind ∧ kind < 7 ∧ FloatKind.f64.format.order (floatOfInt .f64 (acrossN kind nm ⟨#[]⟩ 0)) 4655596114794250240 = some .lt) ∨ (¬ (0 ≤ kind ∧ kind < 7) ∧ floatOfInt .f64 (acrossN kind nm ⟨#[]⟩ 0) = 4655596114794250240) := by
    by_cases h : 0 ≤ kind ∧ kind < 7
    · refine .inl ⟨h.1, h.2, rk_across _ ?_ ?_⟩ <;> (unfold acrossN; rw [if_pos h, hlen]; omega)
    · refine .inr ⟨h, ?_⟩
      unfold acrossN; rw [if_neg h]; decide +kernel
  unfold trig at hof
  generalize floatOfInt .f64 (acrossN kind nm ⟨#[]⟩ 0) = F at *
  have HOF := Lib.hid hof
  clear hof hlen h254 hnm
  go_enter Try.func12, Try.ntmps12
  go_wp2_with fail
  refine (awake18_any _).mono ?_
  rintro e w1 ⟨rfl, hb1⟩
  have hz1 := hb1.size
  go_wp2_with fail
  refine (HT.out _ ((hS.below hb1).more hb1.size)).mono ?_
  rintro e w2 ⟨rfl, hb2⟩
  have hB2 := below_trans hb1 hz1 hb2
  clear HT hS hb1 hb2 hz1
  have hi8 : IntKind.i64.wrap zone = zone := IntWalk.i64_in _ (by omega)
  go_wp2_with fail
  refine (HOF.out _).mono ?_
  rintro e w3 ⟨rfl, hb3⟩
  have hB3 := below_alloc _ hB2 hB2.size hb3
  clear HOF hb3 hB2
  rcases hac with ⟨k0, k7, ho⟩ | ⟨hk, rfl⟩
  · go_wp2_with fail
    go_ret
    exact ⟨rfl, hB3⟩
  · by_cases k0 : 0 ≤ kind
    · have k7 : ¬ kind < 7 := fun h => hk ⟨k0, h⟩
      clear hk
      go_wp2_with fail
      go_ret
      exact ⟨rfl, hB3⟩
    · clear hk
      go_wp2_with fail
      go_ret
      exact ⟨rfl, hB3⟩
end Go.Proofs.Ytioichenjoeonaa
