/- The walk of SoaData. -/
import Derived.Test.YtdekaaclheoapaaLawSoaO
import Derived.Test.YtdekaaclheoapaaReg2
import Derived.StillTailTactics
import Derived.Laws.BitsAllLaws
namespace Go.Proofs.Ytdekaaclheoapaa
open Go.RowKit
set_option linter.unusedVariables false
set_option maxRecDepth 20000

/-- A slice of cells, by what it reads as. -/
def rowW (vs : List Value) : Value → World → Prop := fun v w => ∃ g n, v = .slice (some ⟨g, 0, none⟩) n n ∧ n = vs.length ∧ Sl w w.heap.size 1 (some ⟨g, 0, none⟩) n vs
theorem rowW_stays (vs : List Value) : ∀ v w w', rowW vs v w → Goes w w' → rowW vs v w' := by
  rintro v w w' ⟨g, n, rfl, hn, h⟩ hb; exact ⟨g, n, rfl, hn, (h.below hb).more hb.size⟩
theorem soad_follows : Try.prog.follows .mixedOrders = true := by kernel_rfl
attribute [local simp] putsF isV wordOf Deps Region.binds Region.wanted Act.put
set_option maxHeartbeats 3200000 in
theorem soaData_walk (w : World) (A : Option Addr) (n c : Nat) (zs : List Int) (hV : SlView w A n c (zs.map (Value.int .u8))) (hl : zs.length = n) (hzw : ∀ z ∈ zs, (Lit.int .u8 z).wf = true) (hc : c ≤ 140737488351232)
    (B : Option Addr) (m d : Nat) (ys : List Int) (hV2 : SlView w B m d (ys.map (Value.int .u8))) (hl2 : ys.length = m) (hyw : ∀ z ∈ ys, (Lit.int .u8 z).wf = true) (hd : d ≤ 140737488351232)
    (q : Int) (hqw : (Lit.int .u32 q).wf = true) (r : Int) (hrw : (Lit.int .u32 r).wf = true) (s : Int) (hsw : (Lit.int .u32 s).wf = true) (t : Int) (htw : (Lit.int .u32 t).wf = true) :
    Calls Try.prog 3 #[.slice A n c, .slice B m d, .int .u32 q, .int .u32 r, .int .u32 s, .int .u32 t] w fun e w' => e = .returned (.bool true) ∧ Below w.heap.size w w' := by
  have hz : ∀ z ∈ zs, 0 ≤ z ∧ z < 256 := fun z h => by have := bounds_u8 (hzw z h); omega
  have hy : ∀ z ∈ ys, 0 ≤ z ∧ z < 256 := fun z h => by have := bounds_u8 (hyw z h); omega
  have hA : Sl w w.heap.size 1 A n (zs.map (Value.int .u8)) := hV.sl
  have hB : Sl w w.heap.size 1 B m (ys.map (Value.int .u8)) := hV2.sl
  have hnc := hV.le
  have hmd := hV2.le
  obtain ⟨q, rfl⟩ : ∃ k : Nat, q = k := ⟨q.toNat, by have := bounds_u32 hqw; omega⟩
  obtain ⟨r, rfl⟩ : ∃ k : Nat, r = k := ⟨r.toNat, by have := bounds_u32 hrw; omega⟩
  obtain ⟨s, rfl⟩ : ∃ k : Nat, s = k := ⟨s.toNat, by have := bounds_u32 hsw; omega⟩
  obtain ⟨t, rfl⟩ : ∃ k : Nat, t = k := ⟨t.toNat, by have := bounds_u32 htw; omega⟩
  have q32 : q < 4294967296 := by have := bounds_u32 hqw; omega
  have r32 : r < 4294967296 := by have := bounds_u32 hrw; omega
  have s32 : s < 4294967296 := by have := bounds_u32 hsw; omega
  have t32 : t < 4294967296 := by have := bounds_u32 htw; omega
  obtain ⟨e, he, e32⟩ : ∃ e : Nat, bits .xor .u32 (q : Int) (t : Int) = e ∧ e < 4294967296 := by
    exact ⟨q ^^^ t, u32_xor_nat _ _ q32 t32, Nat.xor_lt_two_pow (n := 32) q32 t32⟩
  have NA := Lib.hid (fun (w' : World) (h : Sl w' w'.heap.size 1 A n (zs.map (Value.int .u8))) => name_any A n c zs w' h hz (by unfold maxLen; omega))
  have NB := Lib.hid (fun (w' : World) (h : Sl w' w'.heap.size 1 B m (ys.map (Value.int .u8))) => name_any B m d ys w' h hy (by unfold maxLen; omega))
  have mN := nameZ_may zs hz
  have mM := nameZ_may ys hy
  have lN := nameZ_len zs hz
  have lM := nameZ_len ys hy
  generalize nameZ zs = X at *
  generalize nameZ ys = Y at *
  obtain ⟨N, hN⟩ : ∃ N, N = ByteArray.mk X.toArray := ⟨_, rfl⟩
  obtain ⟨M, hM⟩ : ∃ M, M = ByteArray.mk Y.toArray := ⟨_, rfl⟩
  have nX : N.data.toList = X := by rw [hN, mk_toList]
  have mY : M.data.toList = Y := by rw [hM, mk_toList]
  have sN : N.size ≤ 84 := by rw [hN, mk_size]; exact lN
  have sM : M.size ≤ 84 := by rw [hM, mk_size]; exact lM
  have D1 := fun w => sdata_any N M q r s t e w (by omega) (by omega) q32 r32 s32 t32 e32
  rw [nX, mY] at D1
  have lD : (dataL X Y [q, r, s, t, e]).length ≤ 300 := by rw [dataL_len]; simp; omega
  obtain ⟨D, hD⟩ : ∃ D, D = ByteArray.mk (dataL X Y [q, r, s, t, e]).toArray := ⟨_, rfl⟩
  have hDl : D.data.toList = dataL X Y [q, r, s, t, e] := by rw [hD, mk_toList]
  have sD : D.size ≤ 300 := by rw [hD, mk_size]; exact lD
  have hyes := isSoa_data (ns := [q, r, s, t, e]) mN mM rfl
  have hval := fun a' b' t' => soaV_data (a' := a') (b' := b') (t := t') mN mM q32 r32 s32 t32 e32
  rw [← hDl] at hyes hval
  unfold sv at NA NB D1 hval
  rw [← hN] at NA hval
  rw [← hM] at NB hval
  rw [← hD] at D1
  have D1 := Lib.hid D1
  have PR := Lib.hid (fun w => parse_any D w (by omega))
  have RM := Lib.hid (fun w => rmay_soa D w (by omega))
  have HY := Lib.hid hyes
  have HV := Lib.hid hval
  have HM := Lib.hid (And.intro mN mM)
  obtain ⟨L, hL⟩ : ∃ L, L = List.flatMap b32 [q, r, s, t, e] := ⟨_, rfl⟩
  have hLl : L.length = 20 := by rw [hL, b32_len]; rfl
  obtain ⟨T, hT⟩ : ∃ T, T = ByteArray.mk L.toArray := ⟨_, rfl⟩
  have sT : T.size = 20 := by rw [hT, mk_size]; exact hLl
  have hW : N ++ ⟨#[0]⟩ ++ M ++ ⟨#[0]⟩ ++ T = D := by
    rw [hT, hL, hD]
    apply ByteArray.ext
    unfold dataL
    simp [← nX, ← mY]
  have HW := Lib.hid hW
  have HT := Lib.hid hT
  have HL := Lib.hid hL
  have HE := Lib.hid he
  have PT := Lib.hid (fun (w : World) (g : Nat) (h : Sl w w.heap.size 1 (some ⟨g, 0, none⟩) 5 ([q, r, s, t, e].map v32)) => put32_any none 0 0 [] (some ⟨g, 0, none⟩) 5 5 [q, r, s, t, e] w (Sl.nil _ _ _ _) (fun _ => ⟨rfl, rfl⟩) h (by intro x hx; simp at hx; omega) (by omega))
  clear hz hy hzw hyw hV hV2 hqw hrw hsw htw hl hl2 mN mM lN lM hN hM hD hDl lD hyes hval hT hL hLl hW he nX mY
  go_enter Try.func3, Try.ntmps3
  go_wp2_with fail
  refine (awake07_any _).mono ?_
  rintro e' w1 ⟨rfl, hb1⟩
  have he := HE.out
  go_wp2_with fail
  clear he
  refine (NA.out _ ((hA.below hb1).more hb1.size)).mono ?_
  rintro e' w2 ⟨rfl, hb2'⟩
  have hb2 := below_trans hb1 hb1.size hb2'
  clear hb1 hb2'
  go_wp2_with fail
  refine (NB.out _ ((hB.below hb2).more hb2.size)).mono ?_
  rintro e' w3 ⟨rfl, hb3'⟩
  have hb3 := below_trans hb2 hb2.size hb3'
  clear hb2 hb3'
  go_wp2_with fail
  have hS := Cs.new w3 #[.string N, .string M, .int .u32 q, .int .u32 r, .int .u32 s, .int .u32 t, .int .u32 e] 28 [.string N, .string M, .int .u32 q, .int .u32 r, .int .u32 s, .int .u32 t, .int .u32 e]
  have hb4 := hb3.alloc hb3.size (.cells #[.string N, .string M, .int .u32 q, .int .u32 r, .int .u32 s, .int .u32 t, .int .u32 e] 28)
  generalize hW4 : w3.alloc (.cells #[.string N, .string M, .int .u32 q, .int .u32 r, .int .u32 s, .int .u32 t, .int .u32 e] 28) = W4 at *
  generalize hP1 : w3.heap.size = P1 at *
  clear hW4 hP1 hb3
  refine (D1.out _).mono ?_
  rintro e' w5 ⟨hb5', ⟨-, rfl⟩ | ⟨hno, -⟩⟩
  rotate_left
  · exact absurd HM.out hno
  have hS5 := hS.below hb5'
  have hb5 := below_trans hb4 hb4.size hb5'
  clear hb4 hb5' hS
  go_upto_region 6 with fail
  have hlt := hS5.lt
  have q1 : ¬ 9223372036854775807 < N.size + 1 := by omega
  have q2 : ¬ 9223372036854775807 < N.size + 1 + M.size := by omega
  have q3 : ¬ 9223372036854775807 < N.size + 1 + M.size + 1 := by omega
  have q4 : ¬ 9223372036854775807 < N.size + 1 + M.size + 1 + T.size := by omega
  have q8 : ¬ 9223372036854775807 < N.size + 1 + M.size + 1 + 20 := by omega
  have q5 : ¬ 9223372036854775807 < (N ++ ⟨#[0]⟩ : ByteArray).size + M.size := by simp only [ByteArray.size_append]; show ¬ _ < N.size + 1 + M.size; omega
  have q6 : ¬ 9223372036854775807 < (N ++ ⟨#[0]⟩ ++ M : ByteArray).size + 1 := by simp only [ByteArray.size_append]; show ¬ _ < N.size + 1 + M.size + 1; omega
  have q7 : ¬ 9223372036854775807 < (N ++ ⟨#[0]⟩ ++ M ++ ⟨#[0]⟩ : ByteArray).size + T.size := by simp only [ByteArray.size_append]; show ¬ _ < N.size + 1 + M.size + 1 + T.size; omega
  refine wp_region_goes soad_follows w5.heap.size w5
    [isV (.pointer (some ⟨P1, 0, none⟩)), isV (.string N), isV (.string (N ++ ⟨#[0]⟩)), isV (.pointer (some ⟨P1, 1, none⟩)), isV (.string M), isV (.string (N ++ ⟨#[0]⟩ ++ M)), isV (.string (N ++ ⟨#[0]⟩ ++ M ++ ⟨#[0]⟩)),
     isV (.int .u32 q), isV (.int .u32 r), isV (.int .u32 s), isV (.int .u32 t), isV (.int .u32 e), rowW ([q, r, s, t, e].map v32), txt L, isV (.string T), isV (.string (N ++ ⟨#[0]⟩ ++ M ++ ⟨#[0]⟩ ++ T)), isV (.string (N ++ ⟨#[0]⟩ ++ M ++ ⟨#[0]⟩ ++ T))]
    (by kernel_rfl) (by kernel_rfl) rfl ?_ (Below.refl _ _) ?_ ?_
  · repeat (first | exact trivial | refine ⟨by first | exact isV_stays _ | exact one_stays _ | exact txt_stays _ | exact rowW_stays _, ?_⟩)
  · refine ⟨?_, ?_, ?_, ?_, ?_, ?_, ?_, ?_, ?_, ?_, ?_, ?_, ?_, ?_, ?_, ?_, ?_, trivial⟩
    all_goals
      intro x wr hR hd
      simp at hd ⊢
    · go_simp; exact next_same _ rfl rfl hR
    · have f0 := (hR.cell (p := ⟨P1, 0, none⟩) hlt).trans (hS5.get 0 _); go_simp; exact next_same _ rfl rfl hR
    · go_simp; exact next_same _ rfl rfl hR
    · go_simp; exact next_same _ rfl rfl hR
    · have f0 := (hR.cell (p := ⟨P1, 1, none⟩) hlt).trans (hS5.get 1 _); go_simp; exact next_same _ rfl rfl hR
    · obtain ⟨hd0, hd1⟩ := hd; go_simp; exact next_same _ rfl rfl hR
    · go_simp; exact next_same _ rfl rfl hR
    · go_simp; exact next_same _ rfl rfl hR
    · go_simp; exact next_same _ rfl rfl hR
    · go_simp; exact next_same _ rfl rfl hR
    · go_simp; exact next_same _ rfl rfl hR
    · go_simp; exact next_same _ rfl rfl hR
    · obtain ⟨e0, e1, e2, e3, e4⟩ := hd; go_simp; exact next_alloc _ _ rfl ⟨_, _, rfl, rfl, Sl.fresh _ _ _ _ _ rfl rfl⟩ hR hR.size
    · obtain ⟨g, k, hx, rfl, hSl⟩ := hd
      rw [hx]
      go_simp
      go_at_call 18
      refine (PT.out wr g hSl).mono ?_
      rintro e' w6 ⟨g', rfl, hown, hb⟩
      exact next_call _ rfl ⟨_, _, _, rfl, by rw [HL.out]; exact Txt.of_own hown⟩ hR hR.size hb
    · obtain ⟨A', n', c', hx, hT'⟩ := hd
      rw [hx]
      have hcv := hT'.conv (P := Try.prog) 22 9 5 Try.underlying22 Try.underlying5 Try.underlying9 c'
      rw [← HT.out] at hcv
      clear hT'
      go_simp
      exact next_same _ rfl rfl hR
    · obtain ⟨hd0, hd1⟩ := hd; go_simp; exact next_same _ rfl rfl hR
    · have h15 : x 15 = .string (N ++ ⟨#[0]⟩ ++ M ++ ⟨#[0]⟩ ++ T) := by first | exact hd | exact hd.1
      clear hd
      go_simp
      exact next_same _ rfl rfl hR
  intro x w6 hb6' hx
  simp [AllWords] at hx ⊢
  obtain ⟨-, -, -, -, -, -, -, -, -, -, -, -, -, -, -, -, h16⟩ := hx
  have hS6 := hS5.below hb6'
  have hb6 := below_trans hb5 hb5.size hb6'
  rw [h16, HW.out]
  clear h16 hS5 hb5 hb6' hlt q1 q2 q3 q4 q5 q6 q7 q8
  go_wp2_with fail
  refine (PR.out _).mono ?_
  rintro e' w7 ⟨hb7', ⟨a, b, u, hy, rfl⟩ | ⟨hno, -⟩⟩
  rotate_left
  · exact absurd HY.out (hno _ _ _)
  rw [HV.out _ _ _ hy]
  clear hy
  have hS7 := hS6.below hb7'
  have hb7 := below_trans hb6 hb6.size hb7'
  clear hS6 hb6 hb7'
  have hlt := hS7.lt
  have c0 := hS7.get 0 _
  have c1 := hS7.get 1 _
  have c2 := hS7.get 2 _
  have c3 := hS7.get 3 _
  have c4 := hS7.get 4 _
  have c5 := hS7.get 5 _
  have c6 := hS7.get 6 _
  clear hS7
  go_wp2_with fail
  clear c0 c1 c2 c3 c4 c5 c6 hlt
  have hb8 := hb7.alloc hb7.size (.cells #[.string N, .string M, .int .u32 q, .int .u32 r, .int .u32 s, .int .u32 t, .int .u32 e] 28)
  refine (RM.out _).mono ?_
  rintro e' w9 ⟨hb9', ⟨-, rfl⟩ | ⟨hno, -⟩⟩
  · have hb9 := below_trans hb8 hb8.size hb9'
    go_wp2_with fail
    go_ret
    exact ⟨rfl, hb9⟩
  · exact absurd HY.out (hno _ _ _)
end Go.Proofs.Ytdekaaclheoapaa
