/- bolterlaw15.Key of any number. -/
import Derived.Test.YtikbekchddinfaaLawTabR
import Derived.Test.YtikbekchddinfaaOb
import Derived.Test.YtikbekchddinfaaRow
import Derived.WalkSmall
namespace Go.Proofs.Ytikbekchddinfaa
open Go.RowKit
set_option linter.unusedVariables false
set_option maxRecDepth 20000
attribute [local simp] putsF isV wordOf Deps Region.binds Region.wanted Act.put wantedX isB
theorem tab_follows : Try.prog.follows .mixedOrders = true := by kernel_rfl
theorem byte_inf15 : (Try.prog.info? 5).map (fun i => (i.zero, i.size, i.bytes)) = some (some (.int .u8 0), 1, 1) := by kernel_rfl
def keyB (n : Nat) : ByteArray := bytesN ([97 + n % 8, 97 + n / 8 % 4] ++ List.replicate (n / 32) 0)
theorem keyB_size (n : Nat) (hn : n < 256) : (keyB n).size ≤ 9 := by rw [keyB, bytesN_size]; simp; omega
theorem keyB_inj {a b : Nat} (ha : a < 256) (hb : b < 256) (h : keyB a = keyB b) : a = b := by
  have := bytesN_inj (by intro x hx; simp at hx; omega) (by intro x hx; simp at hx; omega) h
  simp only [List.cons_append, List.nil_append, List.cons.injEq] at this
  obtain ⟨h1, h2, h3⟩ := this
  have h4 := congrArg List.length h3
  simp at h4
  omega
theorem bytesN_append (a b : List Nat) : bytesN a ++ bytesN b = bytesN (a ++ b) := by
  apply ByteArray.ext
  simp [bytesN]
theorem txt_fresh (w : World) (cs : Array Value) (t : TypeId) (l : List UInt8) (n c : Nat) (hcs : cs.toList = l.map bv) (hl : l.length = n) : txt l (.slice (some ⟨w.heap.size, 0, none⟩) n c) (w.alloc (.cells cs t)) := by
  subst hl
  exact ⟨_, _, _, rfl, Sl.fresh w cs t l.length (l.map bv) hcs (by simp), fun h => by cases h⟩
theorem run_string_txt {P : Program} {w : World} {src dst e : TypeId} {v : Value} {l : List UInt8} (h : txt l v w) (hs : P.underlying src = some (.slice e)) (he : P.underlying e = some (.int .u8)) (hd : P.underlying dst = some .string) : (convert src dst v).run P w = .ok (.string ⟨l.toArray⟩) w := by
  obtain ⟨A, n, c, rfl, h1, h2⟩ := h
  exact run_string_of w src dst e _ A n l hs he hd h1 h2 c
set_option maxHeartbeats 1600000 in
theorem key15_any (n : Nat) (hn : n < 256) (w : World) : Calls Try.prog 8 #[.int .u8 n] w fun e w' => e = .returned (.string (keyB n)) ∧ Below w.heap.size w w' := by
  obtain ⟨ib, hbi, hb0, hb1, hb2⟩ := info_parts byte_inf15
  obtain ⟨a, ha, ha2⟩ : ∃ a : Nat, (n : Int) % 8 = a ∧ a = n % 8 := ⟨n % 8, by omega, rfl⟩
  obtain ⟨q, hq, hq2⟩ : ∃ q : Nat, (n : Int) / 8 = q ∧ q = n / 8 := ⟨n / 8, by omega, rfl⟩
  obtain ⟨c, hc, hc2⟩ : ∃ c : Nat, (q : Int) % 4 = c ∧ c = q % 4 := ⟨q % 4, by omega, rfl⟩
  obtain ⟨d, hd, hd2⟩ : ∃ d : Nat, (n : Int) / 32 = d ∧ d = n / 32 := ⟨n / 32, by omega, rfl⟩
  obtain ⟨a7, ha7, ha72⟩ : ∃ a7 : Nat, (97 : Int) + a = a7 ∧ a7 = 97 + a := ⟨97 + a, by omega, rfl⟩
  obtain ⟨c7, hc7, hc72⟩ : ∃ c7 : Nat, (97 : Int) + c = c7 ∧ c7 = 97 + c := ⟨97 + c, by omega, rfl⟩
  have ba : a < 8 := by omega
  have bc : c < 4 := by omega
  have bd : d < 8 := by omega
  have bq : q < 256 := by omega
  have ba7 : a7 < 256 := by omega
  have bc7 : c7 < 256 := by omega
  obtain ⟨K1, hK1⟩ : ∃ K1, K1 = bytesN [a7, c7] := ⟨_, rfl⟩
  obtain ⟨K2, hK2⟩ : ∃ K2, K2 = bytesN (List.replicate d 0) := ⟨_, rfl⟩
  obtain ⟨K, hK⟩ : ∃ K, K = K1 ++ K2 := ⟨_, rfl⟩
  have hKn : keyB n = K := by rw [hK, hK1, hK2, bytesN_append, keyB, ha72, hc72, ha2, hc2, hq2, hd2]
  have z1 : K1.size ≤ 2 := by rw [hK1, bytesN_size]; simp
  have z2 : K2.size ≤ 8 := by rw [hK2, bytesN_size]; simp; omega
  obtain ⟨Z, hZ⟩ : ∃ Z, madeCells (Value.int .u8 0).cells (d * 1) = Z := ⟨_, rfl⟩
  have hZl : Z.toList = (List.replicate d (0 : UInt8)).map bv := by
    rw [← hZ, Nat.mul_one]
    show (madeCells #[Value.int .u8 0] d).toList = _
    rw [toList_madeCells_one, List.map_replicate]; rfl
  have MK : ∀ w : World, (Instr.makeSlice 41 (.int .u8 (d : Nat)) (.int .u8 (d : Nat))).run Try.prog w = .ok (.slice (some ⟨w.heap.size, 0, none⟩) d d) (w.alloc (.cells Z 5)) := by
    intro w
    have := run_make (P := Try.prog) w 41 5 ib _ Try.underlying41 hbi hb0 .u8 .u8 (d : Nat) (d : Nat) (by omega) (Int.le_refl _) (by rw [hb2]; omega) (by omega)
    simp only [Int.toNat_natCast] at this
    rw [hb1, hZ] at this
    exact this
  have HMK := Lib.hid MK
  have TB : Hid (∀ w : World, txt [UInt8.ofNat a7, UInt8.ofNat c7] (.slice (some ⟨w.heap.size, 0, none⟩) 2 2) (w.alloc (.cells #[.int .u8 (a7 : Int), .int .u8 (c7 : Int)] 5))) := Lib.hid (fun w => txt_fresh w _ _ _ 2 2 (by simp [bv]; omega) rfl)
  have TZ : Hid (∀ w : World, txt (List.replicate d (0 : UInt8)) (.slice (some ⟨w.heap.size, 0, none⟩) d d) (w.alloc (.cells Z 5))) := Lib.hid (fun w => txt_fresh w _ _ _ d d hZl (by simp))
  have k1 : (⟨[UInt8.ofNat a7, UInt8.ofNat c7].toArray⟩ : ByteArray) = K1 := by rw [hK1]; rfl
  have k2 : (⟨(List.replicate d (0 : UInt8)).toArray⟩ : ByteArray) = K2 := by rw [hK2, bytesN, List.map_replicate]; rfl
  have CV1 : Hid (∀ (v : Value) (w : World), txt [UInt8.ofNat a7, UInt8.ofNat c7] v w → (convert 41 9 v).run Try.prog w = .ok (.string K1) w) := Lib.hid (fun v w h => by rw [← k1]; exact run_string_txt h Try.underlying41 Try.underlying5 Try.underlying9)
  have CV2 : Hid (∀ (v : Value) (w : World), txt (List.replicate d (0 : UInt8)) v w → (convert 41 9 v).run Try.prog w = .ok (.string K2) w) := Lib.hid (fun v w h => by rw [← k2]; exact run_string_txt h Try.underlying41 Try.underlying5 Try.underlying9)
  have m1 : (n : Int).tmod 8 = a := by rw [Int.tmod_eq_emod_of_nonneg (by omega)]; exact ha
  have m2 : (n : Int).tdiv 8 = q := by rw [Int.tdiv_eq_ediv_of_nonneg (by omega)]; exact hq
  have m3 : (q : Int).tmod 4 = c := by rw [Int.tmod_eq_emod_of_nonneg (by omega)]; exact hc
  have m4 : (n : Int).tdiv 32 = d := by rw [Int.tdiv_eq_ediv_of_nonneg (by omega)]; exact hd
  have wr1 : ∀ x : Nat, x < 256 → IntKind.u8.wrap (x : Int) = x := by intro x hx; show (x : Int) % 256 = x; omega
  have v1 := wr1 a (by omega)
  have v2 := wr1 q bq
  have v3 := wr1 c (by omega)
  have v4 := wr1 d (by omega)
  have v5 := wr1 a7 ba7
  have v6 := wr1 c7 bc7
  have HKK := Lib.hid hK
  have HKN := Lib.hid hKn
  clear hK hKn hK1 hK2 wr1 hZ hZl MK k1 k2 ha2 hq2 hc2 hd2 ha72 hc72 hbi hb0 hb1 hb2
  go_enter Try.func8, Try.ntmps8
  go_upto_region 1 with fail
  refine wp_region_goesG tab_follows (fun x => by simp [putsF, Act.put]; rfl) w.heap.size w
    [isV (.int .u8 n), isV (.int .u8 a), isV (.int .u8 a7), isV (.int .u8 n), isV (.int .u8 q), isV (.int .u8 c), isV (.int .u8 c7), txt [UInt8.ofNat a7, UInt8.ofNat c7], isV (.string K1), isV (.int .u8 n), isV (.int .u8 d), txt (List.replicate d (0 : UInt8)), isV (.string K2), isV (.string K), isV (.string K)]
    (by kernel_rfl) (by kernel_rfl) (by kernel_rfl) rfl ?_ (Below.refl _ _) ?_ ?_
  · repeat (first | exact trivial | refine ⟨by first | exact isV_stays _ | exact txt_stays _, ?_⟩)
  · refine ⟨?_, ?_, ?_, ?_, ?_, ?_, ?_, ?_, ?_, ?_, ?_, ?_, ?_, ?_, ?_, trivial⟩
    all_goals
      intro x wx hR hd
      simp at hd ⊢
    · go_simp; exact next_same _ rfl rfl hR
    · go_simp; exact next_same _ rfl rfl hR
    · go_simp; exact next_same _ rfl rfl hR
    · go_simp; exact next_same _ rfl rfl hR
    · go_simp; exact next_same _ rfl rfl hR
    · go_simp; exact next_same _ rfl rfl hR
    · go_simp; exact next_same _ rfl rfl hR
    · obtain ⟨hd1, hd2⟩ := hd
      go_simp; exact next_alloc _ _ rfl (TB.out wx) hR hR.size
    · have f0 := CV1.out _ _ hd
      go_simp; exact next_same _ rfl rfl hR
    · go_simp; exact next_same _ rfl rfl hR
    · go_simp; exact next_same _ rfl rfl hR
    · have f0 := HMK.out wx
      go_simp; exact next_alloc _ _ rfl (TZ.out wx) hR hR.size
    · have f0 := CV2.out _ _ hd
      go_simp; exact next_same _ rfl rfl hR
    · obtain ⟨hd1, hd2⟩ := hd
      have f1 : K1.size + K2.size ≤ 9223372036854775807 := by omega
      have f2 : ¬ 9223372036854775807 < K1.size + K2.size := by omega
      have f3 := HKK.out.symm
      go_simp; exact next_same _ rfl rfl hR
    · go_simp; exact next_same _ rfl rfl hR
  intro x wy hby hx
  simp [AllWords] at hx ⊢
  have hx14 : x 14 = .string K := by simp [hx]
  clear hx
  rw [hx14]
  go_wp2_with fail
  go_ret
  exact ⟨by rw [HKN.out]; rfl, hby⟩
end Go.Proofs.Ytikbekchddinfaa
