/- The contracts of an SOA's data: Parse, cutSoa, May, Of. -/
import Derived.Test.YtdekaaclheoapaaSoaA
namespace Go.Proofs.Ytdekaaclheoapaa
open Go.RowKit
set_option linter.unusedVariables false
set_option maxRecDepth 20000

theorem isSoa_no1 {l : List UInt8} (h : ∀ n t, ¬ IsCut l n t) (a b t : List UInt8) : ¬ IsSoa l a b t := fun hs => h _ _ hs.1
theorem isSoa_no2 {l a r : List UInt8} (h1 : IsCut l a r) (h : ∀ n t, ¬ IsCut r n t) (a' b t : List UInt8) : ¬ IsSoa l a' b t := fun hs => by
  obtain ⟨-, h2⟩ := At.one h1 hs.1
  exact h b t ⟨hs.2.1, h2⟩
theorem isSoa_no3 {l a r b t : List UInt8} (h1 : IsCut l a r) (h2 : IsCut r b t) (h : t.length ≠ 20) (a' b' t' : List UInt8) : ¬ IsSoa l a' b' t' := fun hs => by
  obtain ⟨-, h3⟩ := At.one h1 hs.1
  obtain ⟨-, h4⟩ := At.one h2 ⟨hs.2.1, h3⟩
  rw [h4] at h; exact h hs.2.2
theorem isSoa_yes {l a r b t : List UInt8} (h1 : IsCut l a r) (h2 : IsCut r b t) (h : t.length = 20) : IsSoa l a b t := by
  refine ⟨⟨h1.1, ?_⟩, h2.1, h⟩
  rw [← h2.2]; exact h1.2
theorem IsCut.len {l n t : List UInt8} (h : IsCut l n t) : n.length + t.length + 1 = l.length := by rw [h.2]; simp; omega
/-- The value of an SOA. -/
def soaV (a b t : List UInt8) : Value := .agg #[sv a, sv b, .int .u32 (n32 ⟨t.toArray⟩ 0), .int .u32 (n32 ⟨t.toArray⟩ 4), .int .u32 (n32 ⟨t.toArray⟩ 8), .int .u32 (n32 ⟨t.toArray⟩ 12), .int .u32 (n32 ⟨t.toArray⟩ 16)]
def soa0 : Value := .agg #[.string ⟨#[]⟩, .string ⟨#[]⟩, .int .u32 0, .int .u32 0, .int .u32 0, .int .u32 0, .int .u32 0]
theorem number_any (s : ByteArray) (k : Nat) (j : Int) (w : World) (hs : s.size = 20) (hk : k < 5) (hj : j = k) :
    Calls Try.prog 50 #[.string s, .int .i64 j] w fun e w' => e = .returned (.int .u32 (n32 s (4 * k))) ∧ ∃ n, w.drewN n = w' := by
  subst hj
  have HG := Lib.hid (fun w => get32_yes s (4 * k) w (by unfold maxLen; omega) (by omega))
  have hi : IntKind.i64.wrap (4 * (k : Int)) = ((4 * k : Nat) : Int) := by rw [IntWalk.i64_in _ (by omega)]; omega
  clear hs hk
  go_enter Try.func50, Try.ntmps50
  go_wp2_with fail
  refine (HG.out _).mono ?_
  rintro e w1 ⟨rfl, n, rfl⟩
  go_wp2_with fail
  go_ret
  exact ⟨rfl, n, rfl⟩
set_option maxHeartbeats 1600000 in
theorem parse_any (s : ByteArray) (w : World) (hs : s.size ≤ 140737488355328) :
    Calls Try.prog 19 #[.string s] w fun e w' => Below w.heap.size w w' ∧ ((∃ a b t, IsSoa s.data.toList a b t ∧ e = .returned (.tuple #[soaV a b t, .bool true])) ∨ ((∀ a b t, ¬ IsSoa s.data.toList a b t) ∧ e = .returned (.tuple #[soa0, .bool false]))) := by
  have hlen : s.data.toList.length = s.size := by simp
  obtain ⟨L, hL⟩ : ∃ L, s.data.toList = L := ⟨_, rfl⟩
  have HC := Lib.hid (fun w => cutp_any s w hs)
  rw [hL] at HC hlen
  rw [hL]
  clear hL
  go_enter Try.func19, Try.ntmps19
  go_wp2_with fail
  refine (HC.out _).mono ?_
  rintro e w1 ⟨hb1', ⟨a, r, hc1, rfl⟩ | ⟨hno, rfl⟩⟩
  all_goals
    obtain ⟨W, hW⟩ : ∃ W, W = w.alloc (.cells #[.string ⟨#[]⟩, .string ⟨#[]⟩, .int .u32 0, .int .u32 0, .int .u32 0, .int .u32 0, .int .u32 0] 28) := ⟨_, rfl⟩
    rw [← hW] at hb1'
    have hzW : W.heap.size = w.heap.size + 1 := by rw [hW]; simp
    have hBW : Below w.heap.size w W := by rw [hW]; exact (Below.refl _ _).alloc (Nat.le_refl _) _
    have c0 : W.cell? ⟨w.heap.size, 0, none⟩ = some (.string ⟨#[]⟩) := by rw [hW]; simp
    have c1 : W.cell? ⟨w.heap.size, 1, none⟩ = some (.string ⟨#[]⟩) := by rw [hW]; simp
    have c2 : W.cell? ⟨w.heap.size, 2, none⟩ = some (.int .u32 0) := by rw [hW]; simp
    have c3 : W.cell? ⟨w.heap.size, 3, none⟩ = some (.int .u32 0) := by rw [hW]; simp
    have c4 : W.cell? ⟨w.heap.size, 4, none⟩ = some (.int .u32 0) := by rw [hW]; simp
    have c5 : W.cell? ⟨w.heap.size, 5, none⟩ = some (.int .u32 0) := by rw [hW]; simp
    have c6 : W.cell? ⟨w.heap.size, 6, none⟩ = some (.int .u32 0) := by rw [hW]; simp
    have fz : ∀ i, W.frozen? ⟨w.heap.size, i, none⟩ = false := by intro i; rw [hW, World.frozen?_alloc_at _ _ _ _ rfl]
    clear hW
  · have HC1 := Lib.hid hc1
    have hl1 := hc1.len
    have HC2 := Lib.hid (fun w => cutp_any ⟨r.toArray⟩ w (by rw [mk_size]; omega))
    rw [mk_toList] at HC2
    clear hc1
    unfold sv
    go_wp2_with fail
    refine (HC2.out _).mono ?_
    rintro e w2 ⟨hb2', ⟨b, t, hc2, rfl⟩ | ⟨hno, rfl⟩⟩
    all_goals
      have hb2 := below_trans hb1' hb1'.size hb2'
      have d0 := (hb2.cell (p := ⟨w.heap.size, 0, none⟩) (by show w.heap.size < W.heap.size; omega)).trans c0
      have d1 := (hb2.cell (p := ⟨w.heap.size, 1, none⟩) (by show w.heap.size < W.heap.size; omega)).trans c1
      have d2 := (hb2.cell (p := ⟨w.heap.size, 2, none⟩) (by show w.heap.size < W.heap.size; omega)).trans c2
      have d3 := (hb2.cell (p := ⟨w.heap.size, 3, none⟩) (by show w.heap.size < W.heap.size; omega)).trans c3
      have d4 := (hb2.cell (p := ⟨w.heap.size, 4, none⟩) (by show w.heap.size < W.heap.size; omega)).trans c4
      have d5 := (hb2.cell (p := ⟨w.heap.size, 5, none⟩) (by show w.heap.size < W.heap.size; omega)).trans c5
      have d6 := (hb2.cell (p := ⟨w.heap.size, 6, none⟩) (by show w.heap.size < W.heap.size; omega)).trans c6
      have fd : ∀ i, w2.frozen? ⟨w.heap.size, i, none⟩ = false := fun i => (hb2.frozen (p := ⟨w.heap.size, i, none⟩) (by show w.heap.size < W.heap.size; omega)).trans (fz i)
      have hB2 := hBW.trans (hb2.mono hBW.size)
      clear hb2 hb2' hb1' c0 c1 c2 c3 c4 c5 c6 fz hBW
    · unfold sv
      by_cases h20 : t.length = 20
      · have hsz : (ByteArray.mk t.toArray).size = 20 := by rw [mk_size]; exact h20
        have HY := Lib.hid (isSoa_yes HC1.out hc2 h20)
        have N0 := Lib.hid (fun w => number_any ⟨t.toArray⟩ 0 0 w hsz (by omega) rfl)
        have N1 := Lib.hid (fun w => number_any ⟨t.toArray⟩ 1 1 w hsz (by omega) rfl)
        have N2 := Lib.hid (fun w => number_any ⟨t.toArray⟩ 2 2 w hsz (by omega) rfl)
        have N3 := Lib.hid (fun w => number_any ⟨t.toArray⟩ 3 3 w hsz (by omega) rfl)
        have N4 := Lib.hid (fun w => number_any ⟨t.toArray⟩ 4 4 w hsz (by omega) rfl)
        have hne : (((ByteArray.mk t.toArray).size : Int) != 20) = false := by rw [hsz]; decide
        obtain ⟨T, hT⟩ : ∃ T, T = ByteArray.mk t.toArray := ⟨_, rfl⟩
        rw [← hT] at hsz N0 N1 N2 N3 N4 hne ⊢
        have HT := Lib.hid hT
        clear hc2 HC1 HC2 HC h20 hT
        go_wp2_with fail
        refine (N0.out _).mono ?_
        rintro e w3 ⟨rfl, k0, rfl⟩
        go_wp2_with fail
        refine (N1.out _).mono ?_
        rintro e w3 ⟨rfl, k1, rfl⟩
        go_wp2_with fail
        refine (N2.out _).mono ?_
        rintro e w3 ⟨rfl, k2, rfl⟩
        go_wp2_with fail
        refine (N3.out _).mono ?_
        rintro e w3 ⟨rfl, k3, rfl⟩
        go_wp2_with fail
        refine (N4.out _).mono ?_
        rintro e w3 ⟨rfl, k4, rfl⟩
        have hB5 := below_drew hB2 (k0 + k1 + k2 + k3 + k4)
        clear hB2
        go_wp2_with fail
        refine bodyPost_ret (v := .tuple #[.agg #[.string ⟨a.toArray⟩, .string ⟨b.toArray⟩, .int .u32 (n32 T 0), .int .u32 (n32 T 4), .int .u32 (n32 T 8), .int .u32 (n32 T 12), .int .u32 (n32 T 16)], .bool true]) (by simp [results, Try.results19, go_sem, d0, d1, d2, d3, d4, d5, d6]) rfl ⟨?_, .inl ⟨a, b, t, HY.out, ?_⟩⟩
        · iterate 7 (refine Below.setCell ?_ (by simp) _)
          exact hB5
        · unfold soaV sv; rw [← HT.out]
      · have hne : (((ByteArray.mk t.toArray).size : Int) != 20) = true := by rw [mk_size]; simp; omega
        have HN := Lib.hid (isSoa_no3 HC1.out hc2 h20)
        generalize ByteArray.mk t.toArray = T at *
        clear hc2 HC1 HC2 HC h20
        go_wp2_with fail
        refine bodyPost_ret (v := .tuple #[soa0, .bool false]) (by simp [soa0, results, Try.results19, go_sem, d0, d1, d2, d3, d4, d5, d6]) rfl ⟨?_, .inr ⟨HN.out, rfl⟩⟩
        iterate 7 (refine Below.setCell ?_ (by simp) _)
        exact hB2
    · have HN := Lib.hid (isSoa_no2 HC1.out hno)
      clear HC1 HC2 HC hno
      go_wp2_with fail
      refine bodyPost_ret (v := .tuple #[soa0, .bool false]) (by simp [soa0, results, Try.results19, go_sem, d0, d1, d2, d3, d4, d5, d6]) rfl ⟨?_, .inr ⟨HN.out, rfl⟩⟩
      iterate 7 (refine Below.setCell ?_ (by simp) _)
      exact hB2
  · have HN := Lib.hid (isSoa_no1 hno)
    have hb2 := hb1'
    have d0 := (hb2.cell (p := ⟨w.heap.size, 0, none⟩) (by show w.heap.size < W.heap.size; omega)).trans c0
    have d1 := (hb2.cell (p := ⟨w.heap.size, 1, none⟩) (by show w.heap.size < W.heap.size; omega)).trans c1
    have d2 := (hb2.cell (p := ⟨w.heap.size, 2, none⟩) (by show w.heap.size < W.heap.size; omega)).trans c2
    have d3 := (hb2.cell (p := ⟨w.heap.size, 3, none⟩) (by show w.heap.size < W.heap.size; omega)).trans c3
    have d4 := (hb2.cell (p := ⟨w.heap.size, 4, none⟩) (by show w.heap.size < W.heap.size; omega)).trans c4
    have d5 := (hb2.cell (p := ⟨w.heap.size, 5, none⟩) (by show w.heap.size < W.heap.size; omega)).trans c5
    have d6 := (hb2.cell (p := ⟨w.heap.size, 6, none⟩) (by show w.heap.size < W.heap.size; omega)).trans c6
    have fd : ∀ i, w1.frozen? ⟨w.heap.size, i, none⟩ = false := fun i => (hb2.frozen (p := ⟨w.heap.size, i, none⟩) (by show w.heap.size < W.heap.size; omega)).trans (fz i)
    have hB2 := hBW.trans (hb2.mono hBW.size)
    clear hb2 hb1' c0 c1 c2 c3 c4 c5 c6 fz hBW HC hno
    go_wp2_with fail
    refine bodyPost_ret (v := .tuple #[soa0, .bool false]) (by simp [soa0, results, Try.results19, go_sem, d0, d1, d2, d3, d4, d5, d6]) rfl ⟨?_, .inr ⟨HN.out, rfl⟩⟩
    iterate 7 (refine Below.setCell ?_ (by simp) _)
    exact hB2
end Go.Proofs.Ytdekaaclheoapaa
