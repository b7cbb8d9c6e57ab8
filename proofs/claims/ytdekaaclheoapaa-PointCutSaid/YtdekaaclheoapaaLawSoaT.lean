/- The walks of SoaTwo. -/
import Derived.Test.YtdekaaclheoapaaLawSoaP
import Derived.Test.YtdekaaclheoapaaCs
namespace Go.Proofs.Ytdekaaclheoapaa
open Go.RowKit
set_option linter.unusedVariables false
set_option maxRecDepth 20000

theorem nameZ_may (zs : List Int) (hz : ∀ z ∈ zs, 0 ≤ z ∧ z < 256) : mayL (nameZ zs) := by
  have h := few_labels (wordsZ_ok zs hz) (wordsZ_len zs)
  unfold mayL
  unfold labelsOf at h
  rw [mk_toList] at h
  unfold nameZ
  rw [h]; rfl
theorem nameZ_len (zs : List Int) (hz : ∀ z ∈ zs, 0 ≤ z ∧ z < 256) : (nameZ zs).length ≤ 84 := by
  have := few_wire (wordsZ zs) (fun x hx => (wordsZ_ok zs hz x hx).2.2)
  have h2 := wordsZ_len zs
  unfold nameZ; omega
theorem b32_inj {x y : Nat} (hx : x < 4294967296) (hy : y < 4294967296) (h : b32 x = b32 y) : x = y := by
  have key : ∀ n : Nat, n < 4294967296 → (b32 n).map (·.toNat) = [n / 16777216, n / 65536 % 256, n / 256 % 256, n % 256] := by
    intro n hn
    unfold b32
    simp only [List.map_cons, List.map_nil]
    rw [ofNat_small _ (by omega), ofNat_small _ (by omega), ofNat_small _ (by omega), ofNat_small _ (by omega)]
  have h2 := congrArg (List.map (·.toNat)) h
  rw [key x hx, key y hy] at h2
  simp only [List.cons.injEq, and_true] at h2
  omega
theorem flat_inj : ∀ (xs ys : List Nat), xs.length = ys.length → (∀ x ∈ xs, x < 4294967296) → (∀ y ∈ ys, y < 4294967296) → xs.flatMap b32 = ys.flatMap b32 → xs = ys
  | [], [], _, _, _, _ => rfl
  | x :: xs, y :: ys, hl, hx, hy, h => by
    simp only [List.flatMap_cons] at h
    obtain ⟨h1, h2⟩ := List.append_inj h (by simp [b32])
    rw [b32_inj (hx x (by simp)) (hy y (by simp)) h1, flat_inj xs ys (by simpa using hl) (fun z hz => hx z (by simp [hz])) (fun z hz => hy z (by simp [hz])) h2]
theorem isSoa_data {a b : List UInt8} {ns : List Nat} (ha : mayL a) (hb : mayL b) (hn : ns.length = 5) : IsSoa (dataL a b ns) a b (ns.flatMap b32) := ⟨⟨ha, rfl⟩, hb, by rw [b32_len, hn]⟩
theorem dataL_inj {a b a' b' : List UInt8} {ns ns' : List Nat} (ha : mayL a) (hb : mayL b) (ha' : mayL a') (hb' : mayL b') (hn : ns.length = 5) (hn' : ns'.length = 5) (hx : ∀ x ∈ ns, x < 4294967296) (hy : ∀ x ∈ ns', x < 4294967296)
    (h : dataL a b ns = dataL a' b' ns') : a = a' ∧ b = b' ∧ ns = ns' := by
  have h1 := isSoa_data (ns := ns) ha hb hn
  rw [h] at h1
  obtain ⟨e1, e2, e3⟩ := h1.one (isSoa_data ha' hb' hn')
  exact ⟨e1, e2, flat_inj _ _ (by omega) hx hy e3⟩
set_option maxHeartbeats 3200000 in
theorem soaTwo_walk (w : World) (A : Option Addr) (n c : Nat) (zs : List Int) (hV : SlView w A n c (zs.map (Value.int .u8))) (hl : zs.length = n) (hzw : ∀ z ∈ zs, (Lit.int .u8 z).wf = true) (hc : c ≤ 140737488351232)
    (B : Option Addr) (m d : Nat) (ys : List Int) (hV2 : SlView w B m d (ys.map (Value.int .u8))) (hl2 : ys.length = m) (hyw : ∀ z ∈ ys, (Lit.int .u8 z).wf = true) (hd : d ≤ 140737488351232)
    (a : Int) (haw : (Lit.int .u32 a).wf = true) (b : Int) (hbw : (Lit.int .u32 b).wf = true) :
    Calls Try.prog 7 #[.slice A n c, .slice B m d, .int .u32 a, .int .u32 b] w fun e w' => e = .returned (.bool true) ∧ Below w.heap.size w w' := by
  have hz : ∀ z ∈ zs, 0 ≤ z ∧ z < 256 := fun z h => by have := bounds_u8 (hzw z h); omega
  have hy : ∀ z ∈ ys, 0 ≤ z ∧ z < 256 := fun z h => by have := bounds_u8 (hyw z h); omega
  have hA : Sl w w.heap.size 1 A n (zs.map (Value.int .u8)) := hV.sl
  have hB : Sl w w.heap.size 1 B m (ys.map (Value.int .u8)) := hV2.sl
  have hnc := hV.le
  have hmd := hV2.le
  obtain ⟨a, rfl⟩ : ∃ k : Nat, a = k := ⟨a.toNat, by have := bounds_u32 haw; omega⟩
  obtain ⟨b, rfl⟩ : ∃ k : Nat, b = k := ⟨b.toNat, by have := bounds_u32 hbw; omega⟩
  have ha32 : a < 4294967296 := by have := bounds_u32 haw; omega
  have hb32 : b < 4294967296 := by have := bounds_u32 hbw; omega
  have NA := Lib.hid (fun (w' : World) (h : Sl w' w'.heap.size 1 A n (zs.map (Value.int .u8))) => name_any A n c zs w' h hz (by unfold maxLen; omega))
  have NB := Lib.hid (fun (w' : World) (h : Sl w' w'.heap.size 1 B m (ys.map (Value.int .u8))) => name_any B m d ys w' h hy (by unfold maxLen; omega))
  have mN := nameZ_may zs hz
  have mM := nameZ_may ys hy
  have lN := nameZ_len zs hz
  have lM := nameZ_len ys hy
  generalize nameZ zs = X at *
  generalize nameZ ys = Y at *
  obtain ⟨N, hN⟩ : ∃ N, N = ByteArray.mk X.toArray := ⟨_, rfl⟩
  obtain ⟨M, hM⟩ : ∃ M, M = ByteArray.mk Y.toArray := ⟨_, rfl⟩
  have nX : N.data.toList = X := by rw [hN, mk_toList]
  have mY : M.data.toList = Y := by rw [hM, mk_toList]
  have sN : N.size ≤ 84 := by rw [hN, mk_size]; exact lN
  have sM : M.size ≤ 84 := by rw [hM, mk_size]; exact lM
  unfold sv at NA NB
  rw [← hN] at NA
  rw [← hM] at NB
  have z5 : ∀ x ∈ [a, 0, b, 0, 0], x < 4294967296 := by intro x hx; simp at hx; omega
  have z6 : ∀ x ∈ [a, 0, b, b, 0], x < 4294967296 := by intro x hx; simp at hx; omega
  have D1 := fun w => sdata_any N M a 0 b 0 0 w (by omega) (by omega) ha32 (by decide) hb32 (by decide) (by decide)
  have D2 := fun w => sdata_any M N a 0 b 0 0 w (by omega) (by omega) ha32 (by decide) hb32 (by decide) (by decide)
  have D3 := fun w => sdata_any N M a 0 b b 0 w (by omega) (by omega) ha32 (by decide) hb32 hb32 (by decide)
  rw [nX, mY] at D1 D2 D3
  obtain ⟨x, hx⟩ : ∃ x, x = ByteArray.mk (dataL X Y [a, 0, b, 0, 0]).toArray := ⟨_, rfl⟩
  obtain ⟨y, hy'⟩ : ∃ x, x = ByteArray.mk (dataL Y X [a, 0, b, 0, 0]).toArray := ⟨_, rfl⟩
  obtain ⟨z, hz'⟩ : ∃ x, x = ByteArray.mk (dataL X Y [a, 0, b, b, 0]).toArray := ⟨_, rfl⟩
  unfold sv at D1 D2 D3
  rw [← hx] at D1
  rw [← hy'] at D2
  rw [← hz'] at D3
  have D1 := Lib.hid D1
  have D2 := Lib.hid D2
  have D3 := Lib.hid D3
  have hxy : ∃ q : Bool, (x.toList == y.toList) = q ∧ (N.toList == M.toList) = q ∧ (M.toList == N.toList) = q := by
    by_cases h : X = Y
    · refine ⟨true, ?_, ?_, ?_⟩
      · rw [hx, hy', h]; simp
      · rw [hN, hM, h]; simp
      · rw [hN, hM, h]; simp
    · refine ⟨false, str_other _ _ ?_, str_other _ _ ?_, str_other _ _ ?_⟩
      · rw [hx, hy', mk_toList, mk_toList]; exact fun e => h (dataL_inj mN mM mM mN rfl rfl z5 z5 e).1
      · rw [nX, mY]; exact h
      · rw [nX, mY]; exact fun e => h e.symm
  have hxz : ∃ q : Bool, (x.toList == z.toList) = q ∧ ((b : Int) == 0) = q := by
    by_cases h : b = 0
    · refine ⟨true, ?_, by simp; exact h⟩
      rw [hx, hz', h]; simp
    · refine ⟨false, str_other _ _ ?_, by simp; exact h⟩
      rw [hx, hz', mk_toList, mk_toList]; exact fun e => h (by have := (dataL_inj mN mM mN mM rfl rfl z5 z6 e).2.2; simp at this; exact this.symm)
  obtain ⟨q1, e1, e2, e3⟩ := hxy
  obtain ⟨q2, e4, e5⟩ := hxz
  have HM := Lib.hid (And.intro mN mM)
  clear hz hy hzw hyw hV hV2 haw hbw hl hl2 mN mM lN lM hN hM nX mY hx hy' hz' z5 z6 sN sM
  go_enter Try.func7, Try.ntmps7
  go_wp2_with fail
  refine (awake07_any _).mono ?_
  rintro e w1 ⟨rfl, hb1⟩
  go_wp2_with fail
  refine (NA.out _ ((hA.below hb1).more hb1.size)).mono ?_
  rintro e w2 ⟨rfl, hb2'⟩
  have hb2 := below_trans hb1 hb1.size hb2'
  clear hb1 hb2'
  go_wp2_with fail
  refine (NB.out _ ((hB.below hb2).more hb2.size)).mono ?_
  rintro e w3 ⟨rfl, hb3'⟩
  have hb3 := below_trans hb2 hb2.size hb3'
  clear hb2 hb3'
  go_wp2_with fail
  have hS := Cs.new w3 #[.string N, .string M, .int .u32 a, .int .u32 0, .int .u32 b, .int .u32 0, .int .u32 0] 28 [.string N, .string M, .int .u32 a, .int .u32 0, .int .u32 b, .int .u32 0, .int .u32 0]
  have hb4 := hb3.alloc hb3.size (.cells #[.string N, .string M, .int .u32 a, .int .u32 0, .int .u32 b, .int .u32 0, .int .u32 0] 28)
  obtain ⟨P1, hP1⟩ : ∃ P, w3.heap.size = P := ⟨_, rfl⟩
  generalize hW4 : w3.alloc (.cells #[.string N, .string M, .int .u32 a, .int .u32 0, .int .u32 b, .int .u32 0, .int .u32 0] 28) = W4 at *
  rw [hP1] at hS ⊢
  clear hW4 hP1 hb3
  refine (NB.out _ ((hB.below hb4).more hb4.size)).mono ?_
  rintro e w5 ⟨rfl, hb5'⟩
  have hS5 := hS.below hb5'
  have hb5 := below_trans hb4 hb4.size hb5'
  clear hb4 hb5' hS
  go_wp2_with fail
  refine (NA.out _ ((hA.below hb5).more hb5.size)).mono ?_
  rintro e w6 ⟨rfl, hb6'⟩
  have hS6 := hS5.below hb6'
  have hb6 := below_trans hb5 hb5.size hb6'
  clear hb5 hb6' hS5
  have hT := Cs.new w6 #[.string M, .string N, .int .u32 a, .int .u32 0, .int .u32 b, .int .u32 0, .int .u32 0] 28 [.string M, .string N, .int .u32 a, .int .u32 0, .int .u32 b, .int .u32 0, .int .u32 0]
  have hS7 := hS6.alloc (.cells #[.string M, .string N, .int .u32 a, .int .u32 0, .int .u32 b, .int .u32 0, .int .u32 0] 28)
  have hb7 := hb6.alloc hb6.size (.cells #[.string M, .string N, .int .u32 a, .int .u32 0, .int .u32 b, .int .u32 0, .int .u32 0] 28)
  have hlt := hS6.lt
  have c0 := hS7.get 0 _
  have c1 := hS7.get 1 _
  have c2 := hS7.get 2 _
  have c3 := hS7.get 3 _
  have c4 := hS7.get 4 _
  have c5 := hS7.get 5 _
  have c6 := hS7.get 6 _
  clear hS6
  go_wp2_with fail
  clear c0 c1 c2 c3 c4 c5 c6
  have hU := Cs.new (w6.alloc (.cells #[.string M, .string N, .int .u32 a, .int .u32 0, .int .u32 b, .int .u32 0, .int .u32 0] 28)) #[.string N, .string M, .int .u32 a, .int .u32 0, .int .u32 b, .int .u32 b, .int .u32 0] 28 [.string N, .string M, .int .u32 a, .int .u32 0, .int .u32 b, .int .u32 b, .int .u32 0]
  have hT8 := hT.alloc (.cells #[.string N, .string M, .int .u32 a, .int .u32 0, .int .u32 b, .int .u32 b, .int .u32 0] 28)
  have hS8 := hS7.alloc (.cells #[.string N, .string M, .int .u32 a, .int .u32 0, .int .u32 b, .int .u32 b, .int .u32 0] 28)
  have hb8 := hb7.alloc hb7.size (.cells #[.string N, .string M, .int .u32 a, .int .u32 0, .int .u32 b, .int .u32 b, .int .u32 0] 28)
  have hP3 : (w6.alloc (.cells #[.string M, .string N, .int .u32 a, .int .u32 0, .int .u32 b, .int .u32 0, .int .u32 0] 28)).heap.size = w6.heap.size + 1 := by simp
  rw [hP3] at hU
  generalize hW8 : (w6.alloc (.cells #[.string M, .string N, .int .u32 a, .int .u32 0, .int .u32 b, .int .u32 0, .int .u32 0] 28)).alloc (.cells #[.string N, .string M, .int .u32 a, .int .u32 0, .int .u32 b, .int .u32 b, .int .u32 0] 28) = W8 at *
  generalize hP2 : w6.heap.size = P2 at *
  clear hW8 hP2 hP3 hS7 hT hb7 hlt
  refine (D1.out _).mono ?_
  rintro e w9 ⟨hb9', ⟨-, rfl⟩ | ⟨hno, -⟩⟩
  rotate_left
  · exact absurd HM.out hno
  have hS9 := hS8.below hb9'
  have hT9 := hT8.below hb9'
  have hU9 := hU.below hb9'
  have hb9 := below_trans hb8 hb8.size hb9'
  clear hS8 hT8 hU hb8 hb9'
  have c0 := hT9.get 0 _
  have c1 := hT9.get 1 _
  have c2 := hT9.get 2 _
  have c3 := hT9.get 3 _
  have c4 := hT9.get 4 _
  have c5 := hT9.get 5 _
  have c6 := hT9.get 6 _
  go_wp2_with fail
  clear c0 c1 c2 c3 c4 c5 c6
  refine (D2.out _).mono ?_
  rintro e w10 ⟨hb10', ⟨-, rfl⟩ | ⟨hno, -⟩⟩
  rotate_left
  · exact absurd ⟨HM.out.2, HM.out.1⟩ hno
  have hS10 := hS9.below hb10'
  have hT10 := hT9.below hb10'
  have hU10 := hU9.below hb10'
  have hb10 := below_trans hb9 hb9.size hb10'
  clear hS9 hT9 hU9 hb9 hb10'
  have c0 := hU10.get 0 _
  have c1 := hU10.get 1 _
  have c2 := hU10.get 2 _
  have c3 := hU10.get 3 _
  have c4 := hU10.get 4 _
  have c5 := hU10.get 5 _
  have c6 := hU10.get 6 _
  go_wp2_with fail
  clear c0 c1 c2 c3 c4 c5 c6
  refine (D3.out _).mono ?_
  rintro e w11 ⟨hb11', ⟨-, rfl⟩ | ⟨hno, -⟩⟩
  rotate_left
  · exact absurd HM.out hno
  have hS11 := hS10.below hb11'
  have hT11 := hT10.below hb11'
  have hb11 := below_trans hb10 hb10.size hb11'
  clear hS10 hT10 hU10 hb10 hb11'
  have c0 := hS11.get 0 _
  have c1 := hS11.get 1 _
  have c2 := hS11.get 2 _
  have c3 := hS11.get 3 _
  have c4 := hS11.get 4 _
  have c5 := hS11.get 5 _
  have c6 := hS11.get 6 _
  have d0 := hT11.get 0 _
  have d1 := hT11.get 1 _
  have d2 := hT11.get 2 _
  have d3 := hT11.get 3 _
  have d4 := hT11.get 4 _
  have d5 := hT11.get 5 _
  have d6 := hT11.get 6 _
  clear hS11 hT11
  cases q1 <;> cases q2
  all_goals
    go_wp2_with fail
    go_ret
    exact ⟨rfl, hb11⟩
end Go.Proofs.Ytdekaaclheoapaa
