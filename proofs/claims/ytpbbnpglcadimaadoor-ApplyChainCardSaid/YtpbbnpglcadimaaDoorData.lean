/- The contract of the statements' own data builder: some data of no more than 600 bytes. -/
import Derived.Test.YtpbbnpglcadimaaDoorNameW
import Derived.Test.YtpbbnpglcadimaaDoorOb
import Derived.Test.YtpbbnpglcadimaaDoorReg2
import Derived.StillTailTactics
import Derived.Outline
namespace Go.Proofs.YtpbbnpglcadimaaDoor
open Go.RowKit
set_option linter.unusedVariables false
set_option linter.unusedSimpArgs false
set_option maxRecDepth 20000
attribute [local simp] putsF isV wordOf Deps Region.binds Region.wanted Act.put wantedX isB
theorem wire_six : ∀ (ls : List (List UInt8)), (∀ x ∈ ls, x.length ≤ 6) → (wire ls).length ≤ 7 * ls.length
  | [], _ => by simp [wire]
  | x :: ls, h => by
    have h1 := wire_six ls (fun y hy => h y (by simp [hy]))
    have h2 := h x (by simp)
    rw [wire_cons, List.length_append, List.length_cons, List.length_cons]; omega
theorem nameZ_le (zs : List Int) (hz : ∀ z ∈ zs, 0 ≤ z ∧ z < 256) : (nameZ zs).length ≤ 254 := by
  have h1 := wire_six (wordsZ zs) (fun x hx => (wordsZ_ok zs hz x hx).2.2)
  have h2 := wordsZ_len zs
  unfold nameZ
  omega
theorem ite_int7 {a b x y : Int} (h : b ≤ a) : (if a < b then x else y) = y := by rw [if_neg (by omega)]
theorem ite_nat7 {a b : Nat} {x y : Int} (h : b ≤ a) : (if a < b then x else y) = y := by rw [if_neg (by omega)]
attribute [local simp] ite_int7 ite_nat7
/-- The type and the data by a number, of a name's bytes, and a text. -/
def dataOf (q : Nat) (X s : ByteArray) : Nat × ByteArray :=
  if q = 0 ∨ q = 1 then (1, (s ++ ByteArray.mk #[1, 2, 3, 4]).extract 0 4)
  else if q = 2 then (2, X) else if q = 3 then (5, X)
  else if q = 4 then (6, X ++ ByteArray.mk #[0] ++ X ++ ByteArray.mk #[0] ++ (s ++ ByteArray.mk #[48, 49, 50, 51, 52, 53, 54, 55, 56, 57, 48, 49, 50, 51, 52, 53, 54, 55, 56, 57]).extract 0 20)
  else if q = 5 then (16, ByteArray.mk #[UInt8.ofNat s.size] ++ s.extract 0 s.size)
  else if q = 6 then (28, (s ++ ByteArray.mk #[48, 49, 50, 51, 52, 53, 54, 55, 56, 57, 97, 98, 99, 100, 101, 102]).extract 0 16)
  else (99, s.extract 0 s.size)
theorem data_follows : Tryd.prog.follows .mixedOrders = true := by kernel_rfl
/-- Some data. -/
def IsData (q : Nat) (X s : ByteArray) (e : Ending) : Prop := ∃ (t : Nat) (d : ByteArray), e = .returned (.tuple #[.int .u16 t, .string d]) ∧ t < 65536 ∧ d.size ≤ 600 ∧ dataOf q X s = (t, d)
set_option maxHeartbeats 3200000 in
theorem data_any (t : Nat) (ht : t < 65536) (A : Option Addr) (n c : Nat) (zs : List Int) (s : ByteArray) (w : World) (hA : Sl w w.heap.size 1 A n (zs.map (Value.int .u8))) (hz : ∀ z ∈ zs, 0 ≤ z ∧ z < 256) (hn : n ≤ maxLen) (hs : s.size ≤ 30) :
    Calls Tryd.prog 50 #[.int .u16 t, .slice A n c, .string s] w fun e w' => IsData (t % 8) ⟨(nameZ zs).toArray⟩ s e ∧ Below w.heap.size w w' := by
  have NM := Lib.hid (name_any A n c zs w hA hz hn)
  have NZ := Lib.hid (nameZ_le zs hz)
  obtain ⟨q, hq⟩ : ∃ q, q = t % 8 := ⟨_, rfl⟩
  obtain ⟨X, hX⟩ : ∃ X : ByteArray, X = ⟨(nameZ zs).toArray⟩ := ⟨_, rfl⟩
  have hXs : X.size ≤ 254 := by rw [hX, mk_size]; exact NZ.out
  have hXv : sv (nameZ zs) = .string X := by rw [hX]; rfl
  rw [← hq, ← hX]
  rw [hXv] at NM
  have hqi : (t : Int) % 8 = (q : Int) := by omega
  have hq8 : q = 0 ∨ q = 1 ∨ q = 2 ∨ q = 3 ∨ q = 4 ∨ q = 5 ∨ q = 6 ∨ q = 7 := by omega
  have HXS := Lib.hid hXs
  clear hA hz hn hq hX hXs hXv NZ
  go_enter Tryd.func50, Tryd.ntmps50
  go_wp2_with fail
  refine NM.out.mono ?_
  clear NM
  rintro e w1 ⟨rfl, hb1⟩
  have HB1 := Lib.hid hb1
  clear hb1
  have hqq := hq8
  rcases hqq with hqq | hqq | hqq | hqq | hqq | hqq | hqq | hqq
  · have b0 : ((q : Int) == 0) = true := by simp; omega
    obtain ⟨U, hU⟩ : ∃ U, s ++ ByteArray.mk #[1, 2, 3, 4] = U := ⟨_, rfl⟩
    have hUs : U.size = s.size + 4 := by rw [← hU, ByteArray.size_append]; rfl
    obtain ⟨E, hE⟩ : ∃ E, U.extract 0 4 = E := ⟨_, rfl⟩
    have hEs : E.size ≤ 600 := by rw [← hE, ByteArray.size_extract]; omega
    have HES := Lib.hid hEs
    have HD := Lib.hid (show dataOf q X s = (1, E) by rw [hqq]; simp only [dataOf]; simp [hU, hE])
    have hc1 : ¬ 9223372036854775807 < s.size + 4 := by omega
    have hc2 : ¬ 9223372036854775807 < s.size + (ByteArray.mk #[1, 2, 3, 4]).size := by rw [show (ByteArray.mk #[1, 2, 3, 4]).size = 4 from rfl]; omega
    have hle : (4 : Int) ≤ U.size := by omega
    have hle2 : 4 ≤ U.size := by omega
    clear hq8 hqq hUs hEs
    go_upto_region 5 with fail
    go_still (by kernel_rfl)
    change Exit.then _ _ _ _ w1.drew
    have HB := Lib.hid HB1.out.drew
    go_wp2_with fail
    refine bodyPost_ret (v := .tuple #[.int .u16 (1 : Nat), .string E]) (by simp [results, Tryd.results50, go_sem]) rfl ?_
    exact ⟨⟨1, E, rfl, by omega, HES.out, HD.out⟩, HB.out⟩
  · have b0 : ((q : Int) == 0) = false := by simp; omega
    have b1 : ((q : Int) == 1) = true := by simp; omega
    obtain ⟨U, hU⟩ : ∃ U, s ++ ByteArray.mk #[1, 2, 3, 4] = U := ⟨_, rfl⟩
    have hUs : U.size = s.size + 4 := by rw [← hU, ByteArray.size_append]; rfl
    obtain ⟨E, hE⟩ : ∃ E, U.extract 0 4 = E := ⟨_, rfl⟩
    have hEs : E.size ≤ 600 := by rw [← hE, ByteArray.size_extract]; omega
    have HES := Lib.hid hEs
    have HD := Lib.hid (show dataOf q X s = (1, E) by rw [hqq]; simp only [dataOf]; simp [hU, hE])
    have hc1 : ¬ 9223372036854775807 < s.size + 4 := by omega
    have hc2 : ¬ 9223372036854775807 < s.size + (ByteArray.mk #[1, 2, 3, 4]).size := by rw [show (ByteArray.mk #[1, 2, 3, 4]).size = 4 from rfl]; omega
    have hle : (4 : Int) ≤ U.size := by omega
    have hle2 : 4 ≤ U.size := by omega
    clear hq8 hqq hUs hEs
    go_upto_region 5 with fail
    go_still (by kernel_rfl)
    change Exit.then _ _ _ _ w1.drew
    have HB := Lib.hid HB1.out.drew
    go_wp2_with fail
    refine bodyPost_ret (v := .tuple #[.int .u16 (1 : Nat), .string E]) (by simp [results, Tryd.results50, go_sem]) rfl ?_
    exact ⟨⟨1, E, rfl, by omega, HES.out, HD.out⟩, HB.out⟩
  · have b0 : ((q : Int) == 0) = false := by simp; omega
    have b1 : ((q : Int) == 1) = false := by simp; omega
    have b2 : ((q : Int) == 2) = true := by simp; omega
    have HD := Lib.hid (show dataOf q X s = (2, X) by rw [hqq]; simp only [dataOf]; simp)
    clear hq8 hqq
    have HB := HB1
    go_wp2_with fail
    refine bodyPost_ret (v := .tuple #[.int .u16 (2 : Nat), .string X]) (by simp [results, Tryd.results50, go_sem]) rfl ?_
    exact ⟨⟨2, X, rfl, by omega, (by have := HXS.out; omega), HD.out⟩, HB.out⟩
  · have b0 : ((q : Int) == 0) = false := by simp; omega
    have b1 : ((q : Int) == 1) = false := by simp; omega
    have b2 : ((q : Int) == 2) = false := by simp; omega
    have b3 : ((q : Int) == 3) = true := by simp; omega
    have HD := Lib.hid (show dataOf q X s = (5, X) by rw [hqq]; simp only [dataOf]; simp)
    clear hq8 hqq
    have HB := HB1
    go_wp2_with fail
    refine bodyPost_ret (v := .tuple #[.int .u16 (5 : Nat), .string X]) (by simp [results, Tryd.results50, go_sem]) rfl ?_
    exact ⟨⟨5, X, rfl, by omega, (by have := HXS.out; omega), HD.out⟩, HB.out⟩
  · have b0 : ((q : Int) == 0) = false := by simp; omega
    have b1 : ((q : Int) == 1) = false := by simp; omega
    have b2 : ((q : Int) == 2) = false := by simp; omega
    have b3 : ((q : Int) == 3) = false := by simp; omega
    have b4 : ((q : Int) == 4) = true := by simp; omega
    obtain ⟨X1, hX1⟩ : ∃ U, X ++ ByteArray.mk #[0] = U := ⟨_, rfl⟩
    obtain ⟨X2, hX2⟩ : ∃ U, X1 ++ X = U := ⟨_, rfl⟩
    obtain ⟨X3, hX3⟩ : ∃ U, X2 ++ ByteArray.mk #[0] = U := ⟨_, rfl⟩
    obtain ⟨U, hU⟩ : ∃ U, s ++ ByteArray.mk #[48, 49, 50, 51, 52, 53, 54, 55, 56, 57, 48, 49, 50, 51, 52, 53, 54, 55, 56, 57] = U := ⟨_, rfl⟩
    have hUs : U.size = s.size + 20 := by rw [← hU, ByteArray.size_append]; rfl
    have s1 : X1.size = X.size + 1 := by rw [← hX1, ByteArray.size_append]; rfl
    have s2 : X2.size = X1.size + X.size := by rw [← hX2, ByteArray.size_append]
    have s3 : X3.size = X2.size + 1 := by rw [← hX3, ByteArray.size_append]; rfl
    obtain ⟨E, hE⟩ : ∃ E, U.extract 0 20 = E := ⟨_, rfl⟩
    have hEs : E.size ≤ 20 := by rw [← hE, ByteArray.size_extract]; omega
    obtain ⟨R, hR⟩ : ∃ R, X3 ++ E = R := ⟨_, rfl⟩
    have hx := HXS.out
    have hRs : R.size ≤ 600 := by rw [← hR, ByteArray.size_append]; omega
    have HRS := Lib.hid hRs
    have HD := Lib.hid (show dataOf q X s = (6, R) by rw [hqq]; simp only [dataOf]; simp [hX1, hX2, hX3, hU, hE, hR])
    have hc1 : ¬ 9223372036854775807 < s.size + 20 := by omega
    have hc2 : ¬ 9223372036854775807 < s.size + (ByteArray.mk #[48, 49, 50, 51, 52, 53, 54, 55, 56, 57, 48, 49, 50, 51, 52, 53, 54, 55, 56, 57]).size := by rw [show (ByteArray.mk #[48, 49, 50, 51, 52, 53, 54, 55, 56, 57, 48, 49, 50, 51, 52, 53, 54, 55, 56, 57]).size = 20 from rfl]; omega
    have hc3 : ¬ 9223372036854775807 < X.size + 1 := by omega
    have hc4 : ¬ 9223372036854775807 < X.size + (ByteArray.mk #[0]).size := by rw [show (ByteArray.mk #[0]).size = 1 from rfl]; omega
    have hc5 : ¬ 9223372036854775807 < X1.size + X.size := by omega
    have hc6 : ¬ 9223372036854775807 < X2.size + 1 := by omega
    have hc7 : ¬ 9223372036854775807 < X2.size + (ByteArray.mk #[0]).size := by rw [show (ByteArray.mk #[0]).size = 1 from rfl]; omega
    have hc8 : ¬ 9223372036854775807 < X3.size + E.size := by omega
    have hle : (20 : Int) ≤ U.size := by omega
    have hle2 : 20 ≤ U.size := by omega
    clear hq8 hqq hUs hEs s1 s2 s3 hx hRs
    go_upto_region 11 with fail
    go_still (by kernel_rfl)
    change Exit.then _ _ _ _ w1.drew
    have HB := Lib.hid HB1.out.drew
    go_wp2_with fail
    refine bodyPost_ret (v := .tuple #[.int .u16 (6 : Nat), .string R]) (by simp [results, Tryd.results50, go_sem]) rfl ?_
    exact ⟨⟨6, R, rfl, by omega, HRS.out, HD.out⟩, HB.out⟩
  · have b0 : ((q : Int) == 0) = false := by simp; omega
    have b1 : ((q : Int) == 1) = false := by simp; omega
    have b2 : ((q : Int) == 2) = false := by simp; omega
    have b3 : ((q : Int) == 3) = false := by simp; omega
    have b4 : ((q : Int) == 4) = false := by simp; omega
    have b5 : ((q : Int) == 5) = true := by simp; omega
    obtain ⟨L, hL⟩ : ∃ L, L = s.size := ⟨_, rfl⟩
    obtain ⟨E, hE⟩ : ∃ E, s.extract 0 L = E := ⟨_, rfl⟩
    have hEs : E.size ≤ 30 := by rw [← hE, ByteArray.size_extract]; omega
    obtain ⟨R, hR⟩ : ∃ R, ByteArray.mk #[UInt8.ofNat L] ++ E = R := ⟨_, rfl⟩
    have hRs : R.size ≤ 600 := by rw [← hR, ByteArray.size_append]; show 1 + E.size ≤ 600; omega
    have HRS := Lib.hid hRs
    have HD := Lib.hid (show dataOf q X s = (16, R) by rw [hqq]; simp only [dataOf]; simp [← hL, hE, hR])
    have hsz : s.size = L := hL.symm
    have hmi : (L : Int) ≤ 255 := by omega
    have hmn : L ≤ 255 := by omega
    have hLL : (L : Int) ≤ L := by omega
    have hLn : L ≤ L := Nat.le_refl _
    have hwr : IntKind.u8.wrap (L : Int) = (L : Int) := by show (L : Int) % 256 = L; omega
    have hbv : bv (UInt8.ofNat L) = .int .u8 (L : Int) := by unfold bv; simp; omega
    have hc1 : ¬ 9223372036854775807 < 1 + E.size := by omega
    have hc2 : ¬ 9223372036854775807 < (ByteArray.mk #[UInt8.ofNat L]).size + E.size := by show ¬ _ < 1 + E.size; omega
    clear hq8 hqq hEs hL hRs
    have HV := Lib.hid hbv
    clear hbv
    go_upto_region 14 with fail
    refine wp_region_goes data_follows w1.heap.size w1
      [isV (.int .i64 (L : Nat)), isV (.int .u8 (L : Nat)), txt [UInt8.ofNat L], isV (.string ⟨#[UInt8.ofNat L]⟩), isV (.string s), isV (.int .i64 (L : Nat)), isV (.string E), isV (.string R), isV (.int .u16 16), isV (.string R)]
      (by kernel_rfl) (by kernel_rfl) rfl ?_ (Below.refl _ _) ?_ ?_
    · repeat (first | exact trivial | refine ⟨by first | exact isV_stays _ | exact txt_stays _, ?_⟩)
    · refine ⟨?_, ?_, ?_, ?_, ?_, ?_, ?_, ?_, ?_, ?_, trivial⟩
      all_goals
        intro x wr hR hd
        simp at hd ⊢
      · go_simp; exact next_same _ rfl rfl hR
      · go_simp; exact next_same _ rfl rfl hR
      · go_simp; exact next_alloc _ _ rfl ⟨_, _, _, rfl, Sl.fresh _ _ _ 1 _ (by rw [List.map_cons, HV.out]; rfl) rfl, fun h => by cases h⟩ hR hR.size
      · obtain ⟨A', n', c', hx, hT'⟩ := hd
        rw [hx]
        have hcv := hT'.conv (P := Tryd.prog) 64 9 5 Tryd.underlying64 Tryd.underlying5 Tryd.underlying9 c'
        clear hT'
        go_simp
        exact next_same _ rfl rfl hR
      · go_simp; exact next_same _ rfl rfl hR
      · go_simp; exact next_same _ rfl rfl hR
      · obtain ⟨hd0, hd1⟩ := hd; go_simp; exact next_same _ rfl rfl hR
      · obtain ⟨hd0, hd1⟩ := hd; go_simp; exact next_same _ rfl rfl hR
      · go_simp; exact next_same _ rfl rfl hR
      · have h7 : x 7 = .string R := by first | exact hd | exact hd.2 | exact hd.1
        clear hd
        go_simp
        exact next_same _ rfl rfl hR
    · intro x wr hR hx
      simp [AllWords] at hx
      obtain ⟨-, -, -, -, -, -, -, -, h8, h9⟩ := hx
      have HB := Lib.hid (below_trans HB1.out HB1.out.size hR)
      simp only [List.map, Array.toList, putsF, Nat.reduceAdd, Nat.zero_add]
      rw [h8, h9]
      clear h8 h9
      go_wp2_with fail
      refine bodyPost_ret (v := .tuple #[.int .u16 (16 : Nat), .string R]) (by simp [results, Tryd.results50, go_sem]) rfl ?_
      exact ⟨⟨16, R, rfl, by omega, HRS.out, HD.out⟩, HB.out⟩
  · have b0 : ((q : Int) == 0) = false := by simp; omega
    have b1 : ((q : Int) == 1) = false := by simp; omega
    have b2 : ((q : Int) == 2) = false := by simp; omega
    have b3 : ((q : Int) == 3) = false := by simp; omega
    have b4 : ((q : Int) == 4) = false := by simp; omega
    have b5 : ((q : Int) == 5) = false := by simp; omega
    have b6 : ((q : Int) == 6) = true := by simp; omega
    obtain ⟨U, hU⟩ : ∃ U, s ++ ByteArray.mk #[48, 49, 50, 51, 52, 53, 54, 55, 56, 57, 97, 98, 99, 100, 101, 102] = U := ⟨_, rfl⟩
    have hUs : U.size = s.size + 16 := by rw [← hU, ByteArray.size_append]; rfl
    obtain ⟨E, hE⟩ : ∃ E, U.extract 0 16 = E := ⟨_, rfl⟩
    have hEs : E.size ≤ 600 := by rw [← hE, ByteArray.size_extract]; omega
    have HES := Lib.hid hEs
    have HD := Lib.hid (show dataOf q X s = (28, E) by rw [hqq]; simp only [dataOf]; simp [hU, hE])
    have hc1 : ¬ 9223372036854775807 < s.size + 16 := by omega
    have hc2 : ¬ 9223372036854775807 < s.size + (ByteArray.mk #[48, 49, 50, 51, 52, 53, 54, 55, 56, 57, 97, 98, 99, 100, 101, 102]).size := by rw [show (ByteArray.mk #[48, 49, 50, 51, 52, 53, 54, 55, 56, 57, 97, 98, 99, 100, 101, 102]).size = 16 from rfl]; omega
    have hle : (16 : Int) ≤ U.size := by omega
    have hle2 : 16 ≤ U.size := by omega
    clear hq8 hqq hUs hEs
    go_upto_region 16 with fail
    go_still (by kernel_rfl)
    change Exit.then _ _ _ _ w1.drew
    have HB := Lib.hid HB1.out.drew
    go_wp2_with fail
    refine bodyPost_ret (v := .tuple #[.int .u16 (28 : Nat), .string E]) (by simp [results, Tryd.results50, go_sem]) rfl ?_
    exact ⟨⟨28, E, rfl, by omega, HES.out, HD.out⟩, HB.out⟩
  · have b0 : ((q : Int) == 0) = false := by simp; omega
    have b1 : ((q : Int) == 1) = false := by simp; omega
    have b2 : ((q : Int) == 2) = false := by simp; omega
    have b3 : ((q : Int) == 3) = false := by simp; omega
    have b4 : ((q : Int) == 4) = false := by simp; omega
    have b5 : ((q : Int) == 5) = false := by simp; omega
    have b6 : ((q : Int) == 6) = false := by simp; omega
    obtain ⟨L, hL⟩ : ∃ L, L = s.size := ⟨_, rfl⟩
    obtain ⟨E, hE⟩ : ∃ E, s.extract 0 L = E := ⟨_, rfl⟩
    have hEs : E.size ≤ 600 := by rw [← hE, ByteArray.size_extract]; omega
    have HES := Lib.hid hEs
    have HD := Lib.hid (show dataOf q X s = (99, E) by rw [hqq]; simp only [dataOf]; simp [← hL, hE])
    have hsz : s.size = L := hL.symm
    have hmi : (L : Int) ≤ 512 := by omega
    have hmn : L ≤ 512 := by omega
    have hLL : (L : Int) ≤ L := by omega
    have hLn : L ≤ L := Nat.le_refl _
    clear hq8 hqq hEs hL
    go_upto_region 17 with fail
    go_still (by kernel_rfl)
    change Exit.then _ _ _ _ w1.drew
    have HB := Lib.hid HB1.out.drew
    go_wp2_with fail
    refine bodyPost_ret (v := .tuple #[.int .u16 (99 : Nat), .string E]) (by simp [results, Tryd.results50, go_sem]) rfl ?_
    exact ⟨⟨99, E, rfl, by omega, HES.out, HD.out⟩, HB.out⟩
end Go.Proofs.YtpbbnpglcadimaaDoor
