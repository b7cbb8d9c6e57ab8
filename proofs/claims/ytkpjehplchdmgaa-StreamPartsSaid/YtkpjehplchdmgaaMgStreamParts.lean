/- Texts that walks stand on, one behind the other. -/
import Derived.Test.YtkpjehplchdmgaaMgSD
import Derived.Outline
import Derived.Test.YtkpjehplchdmgaaViewA
namespace Go.Proofs.Ytkpjehplchdmgaa
open Go.RowKit
set_option linter.unusedVariables false
set_option linter.unusedSimpArgs false
set_option maxRecDepth 20000
/-- A row of acts: where it lies, how long it is, its room, what it holds. -/
abbrev RowA := Option Addr × Nat × Nat × List ActT
structure Rows9 (w : World) (A : Option Addr) (np : Nat) (rows : List RowA) : Prop where
  len : rows.length = np
  at_ : ∀ (i : Nat) (r : RowA), rows[i]? = some r → ∃ b off, A = some ⟨b, off, none⟩ ∧ b < w.heap.size ∧ w.cell? ⟨b, off + i, none⟩ = some (.slice r.1 r.2.1 r.2.2.1)
  acts : ∀ (i : Nat) (r : RowA), rows[i]? = some r → ActsAt w r.1 r.2.1 r.2.2.2 ∧ r.2.1 ≤ maxLen
theorem Rows9.below {w w' : World} {A : Option Addr} {np : Nat} {rows : List RowA} (h : Rows9 w A np rows) (hb : Below w.heap.size w w') : Rows9 w' A np rows := by
  refine ⟨h.len, fun i r hr => ?_, fun i r hr => ⟨(h.acts i r hr).1.below hb, (h.acts i r hr).2⟩⟩
  obtain ⟨b, off, hA, hlt, hc⟩ := h.at_ i r hr
  exact ⟨b, off, hA, Nat.lt_of_lt_of_le hlt hb.size, (hb.cell (p := ⟨b, off + i, none⟩) hlt).trans hc⟩
def rowAt (rows : List RowA) (i : Nat) : List ActT := (rows[i]?.map fun r => r.2.2.2).getD []
/-- A number, some further on. -/
def serP (fr k : Nat) : Nat := (fr + k) % 4294967296
def stepR (o : ByteArray) (fr : Nat) (rows : List RowA) (k : Nat) : List RecT :=
  [soaR o (serP fr k)] ++ undersOf o false (rowAt rows (2 * k)) 5 ++ [soaR o (serP fr (k + 1))] ++ undersOf o false (rowAt rows (2 * k + 1)) 5
def chainK (o : ByteArray) (fr : Nat) (rows : List RowA) : Nat → List RecT
  | 0 => []
  | k + 1 => chainK o fr rows k ++ stepR o fr rows k
/-- A chain of deltas. -/
def chainR (o : ByteArray) (fr : Nat) (rows : List RowA) (n : Nat) : List RecT := [soaR o (serP fr n)] ++ chainK o fr rows n ++ [soaR o (serP fr n)]
theorem stepR_len (o : ByteArray) (fr : Nat) (rows : List RowA) (k : Nat) : (stepR o fr rows k).length ≤ 12 := by
  unfold stepR
  simp only [List.length_append, List.length_cons, List.length_nil, undersOf_len]
  omega
theorem chainK_len (o : ByteArray) (fr : Nat) (rows : List RowA) : ∀ k, (chainK o fr rows k).length ≤ 12 * k
  | 0 => Nat.le_refl _
  | k + 1 => by
    have := chainK_len o fr rows k
    have := stepR_len o fr rows k
    unfold chainK
    rw [List.length_append]
    omega
theorem fit9_chain (o : ByteArray) (ho : o.size ≤ 254) (fr : Nat) (rows : List RowA) (n : Nat) : ∀ r ∈ chainR o fr rows n, fit9 r := by
  have hk : ∀ k, ∀ r ∈ chainK o fr rows k, fit9 r := by
    intro k
    induction k with
    | zero => intro r hr; cases hr
    | succ k ih =>
      intro r hr
      unfold chainK at hr
      rcases List.mem_append.1 hr with hr | hr
      · exact ih r hr
      · unfold stepR at hr
        simp only [List.mem_append, List.mem_singleton] at hr
        rcases hr with ((rfl | hr) | rfl) | hr
        · exact fit9_soa o ho _
        · exact fit9_unders o ho _ _ _ r hr
        · exact fit9_soa o ho _
        · exact fit9_unders o ho _ _ _ r hr
  intro r hr
  unfold chainR at hr
  simp only [List.mem_append, List.mem_singleton] at hr
  rcases hr with (rfl | hr) | rfl
  · exact fit9_soa o ho _
  · exact hk n r hr
  · exact fit9_soa o ho _
/-- A list that grows, and a box that stays, in another block. -/
structure CH (W : World) (gb : Nat) (cs : List Value) (v : Value) (n : Nat) (l : List Value) (w : World) : Prop where
  obm : OBM 4 W.heap.size W v n l w
  box : Cs w gb cs
  own : ∀ q, v.ownBlock = some q → gb < q
theorem CH.below {W w w' : World} {gb n : Nat} {cs l : List Value} {v : Value} (h : CH W gb cs v n l w) (hb : Below w.heap.size w w') : CH W gb cs v n l w' := ⟨h.obm.keep hb (Nat.le_refl _), h.box.below hb, h.own⟩
theorem CH.alloc {W w : World} {gb n : Nat} {cs l : List Value} {v : Value} (h : CH W gb cs v n l w) (o : Obj) : CH W gb cs v n l (w.alloc o) := h.below ((Below.refl _ _).alloc (Nat.le_refl _) _)
theorem CH.app {W w w' : World} {gb n n' : Nat} {cs l l' : List Value} {v v' : Value} (h : CH W gb cs v n l w) (q1 : OBM 4 W.heap.size W v' n' l' w') (q2 : w.heap.size ≤ w'.heap.size) (q3 : ∀ k, k < w.heap.size → some k ≠ v.ownBlock → w'.heap[k]? = w.heap[k]?) (q4 : v'.ownBlock = v.ownBlock ∨ v'.ownBlock = some w.heap.size) : CH W gb cs v' n' l' w' := by
  refine ⟨q1, h.box.block (q3 gb h.box.lt (fun e => by have := h.own gb e.symm; omega)) q2, fun q hq => ?_⟩
  rcases q4 with e | e
  · rw [e] at hq; exact h.own q hq
  · rw [e] at hq; injection hq with hq; have := h.box.lt; omega
theorem ch_len (o : ByteArray) (fr : Nat) (rows : List RowA) (k N : Nat) (hk : k < N) (hN : N ≤ 4) (a b : Nat) (ha : a ≤ 5) (hb : b ≤ 5) : 1 + (chainK o fr rows k).length + 1 ≤ 100 ∧ 1 + (chainK o fr rows k).length + 1 + a ≤ 100 ∧ 1 + (chainK o fr rows k).length + 1 + a + 1 ≤ 100 ∧ 1 + (chainK o fr rows k).length + 1 + a + 1 + b ≤ 100 := by
  have := chainK_len o fr rows k
  refine ⟨by omega, by omega, by omega, by omega⟩
theorem idx_facts (k K2 K3 N np : Nat) (h2 : K2 = 2 * k) (h3 : K3 = 2 * k + 1) (hk : k < N) (hN : N ≤ 4) (hnp : 2 * N ≤ np) : wrap64 (2 * (k : Int)) = (K2 : Int) ∧ IntKind.i64.wrap (2 * (k : Int)) = (K2 : Int) ∧ wrap64 ((K2 : Int) + 1) = (K3 : Int) ∧ IntKind.i64.wrap ((K2 : Int) + 1) = (K3 : Int) ∧ (K2 : Int) < np ∧ K2 < np ∧ (K3 : Int) < np ∧ K3 < np := by
  refine ⟨by unfold wrap64; omega, by rw [IntKind.wrap_i64]; omega, by unfold wrap64; omega, by rw [IntKind.wrap_i64]; omega, by omega, by omega, by omega, by omega⟩
theorem len_max {n : Nat} (h : n ≤ 100) : n ≤ maxLen ∧ n * 40 ≤ 140737488355328 := by unfold maxLen; omega
theorem obm_of_cs9 {B g : Nat} {W w : World} {a b c d : Value} (hb : Below B W w) (hs : B ≤ w.heap.size) (hg : B ≤ g) (h : Cs w g [a, b, c, d]) : OBM 4 B W (.slice (some ⟨g, 0, none⟩) 1 1) 1 [a, b, c, d] w := by
  refine ⟨hb, hs, rfl, .inr ⟨g, 1, rfl, hg, h.lt, Nat.le_refl _, by decide, fun j hj => ?_, fun j u hu => h.get j u hu⟩⟩
  have h1 := h.2 j (by simpa using hj)
  exact ⟨by rw [h1.1]; rfl, h1.2⟩
theorem serP_lt (fr k : Nat) : serP fr k < 4294967296 := Nat.mod_lt _ (by decide)
theorem serP_wrap (fr k : Nat) (hf : fr < 4294967296) (hk : k < 16) : IntKind.u32.wrap (k : Int) = (k : Int) ∧ IntKind.u32.wrap ((fr : Int) + (k : Int)) = ((serP fr k : Nat) : Int) ∧ IntKind.u32.wrap (((serP fr k : Nat) : Int) + 1) = ((serP fr (k + 1) : Nat) : Int) := by
  unfold serP
  refine ⟨?_, ?_, ?_⟩
  · show (k : Int) % 4294967296 = k; omega
  · show ((fr : Int) + k) % 4294967296 = _; omega
  · show ((((fr + k) % 4294967296 : Nat) : Int) + 1) % 4294967296 = _; omega
set_option maxHeartbeats 6400000 in
theorem chain_any (o : ByteArray) (fr : Nat) (A : Option Addr) (np cp : Nat) (rows : List RowA) (w : World) (h : Rows9 w A np rows) (hf : fr < 4294967296) (hob : o.size ≤ 254) (hnp : np ≤ 9223372036854775807) :
    Calls Try.prog 9 #[.string o, .int .u32 (fr : Nat), .slice A np cp] w fun e w' => ∃ v, e = .returned v ∧ OBM 4 w.heap.size w v (chainR o fr rows (min (np / 2) 4)).length (flatR (chainR o fr rows (min (np / 2) 4))) w' := by
  obtain ⟨N, hN⟩ : ∃ N, N = min (np / 2) 4 := ⟨_, rfl⟩
  rw [← hN]
  have hN4 : N ≤ 4 := by omega
  have hN2 : 2 * N ≤ np := by omega
  obtain ⟨i0, hi, hz0, hz1, hz2⟩ := info_parts4 rec_info
  have SO : Hid (∀ k w, Calls Try.prog 15 #[.string o, .int .u32 (serP fr k : Nat)] w fun e w' => e = .returned (.agg #[.string o, .int .u16 6, .int .u32 9, .string (soaD (serP fr k))]) ∧ Below w.heap.size w w') := Lib.hid (fun k w => soa9_any o (serP fr k) (serP_lt fr k) w)
  have HW := Lib.hid (fun k (hk : k < 16) => serP_wrap fr k hf hk)
  obtain ⟨DN, hDN⟩ : ∃ D, D = soaD (serP fr N) := ⟨_, rfl⟩
  have HDN := Lib.hid hDN
  have SN := SO.out N
  rw [← hDN] at SN
  have SN := Lib.hid SN
  have HH := Lib.hid h
  have HNN := Lib.hid (And.intro hN4 hN2)
  have hwN := (HW.out N (by omega)).1
  have hwN2 := (HW.out N (by omega)).2.1
  have hnd : (np : Int).tdiv 2 = ((np / 2 : Nat) : Int) := by rw [Int.tdiv_eq_ediv_of_nonneg (by omega)]; omega
  obtain ⟨HV, hHV⟩ : ∃ q, q = np / 2 := ⟨_, rfl⟩
  rw [← hHV] at hnd
  have hnd2 : (np : Int) / 2 = (HV : Int) := by omega
  have hmin1 : (if (4 : Int) < HV then (4 : Int) else (HV : Int)) = (N : Int) := by split <;> omega
  have hmin2 : (if 4 < HV then (4 : Int) else (HV : Int)) = (N : Int) := by split <;> omega
  clear h hDN hN4 hN2 hN hHV
  go_enter Try.func9, Try.ntmps9
  go_wp2_with fail
  refine (SN.out _).mono ?_
  rintro e wS ⟨rfl, hbS⟩
  have hcx := (Cs.new wS #[.string o, .int .u16 6, .int .u32 9, .string DN] 32 [.string o, .int .u16 6, .int .u32 9, .string DN]).alloc (.cells #[.string o, .int .u16 6, .int .u32 9, .string DN] 32)
  have hbx := (hbS.alloc hbS.size (.cells #[.string o, .int .u16 6, .int .u32 9, .string DN] 32)).alloc (Nat.le_trans hbS.size (by simp)) (.cells #[.string o, .int .u16 6, .int .u32 9, .string DN] 32)
  have hcy := Cs.new (wS.alloc (.cells #[.string o, .int .u16 6, .int .u32 9, .string DN] 32)) #[.string o, .int .u16 6, .int .u32 9, .string DN] 32 [.string o, .int .u16 6, .int .u32 9, .string DN]
  rw [show (wS.alloc (.cells #[.string o, .int .u16 6, .int .u32 9, .string DN] 32)).heap.size = wS.heap.size + 1 by simp] at hcy
  have HGS := Lib.hid hbS.size
  have H3 := Lib.hid (And.intro hcx (And.intro hcy hbx))
  clear hcx hcy hbx hbS
  go_upto_region 4 with fail
  obtain ⟨hcx, hcy, hbx⟩ := H3.out
  generalize (wS.alloc (.cells #[.string o, .int .u16 6, .int .u32 9, .string DN] 32)).alloc (.cells #[.string o, .int .u16 6, .int .u32 9, .string DN] 32) = wL at *
  obtain ⟨g9, hg9⟩ : ∃ g, g = wS.heap.size + 1 := ⟨_, rfl⟩
  obtain ⟨gb, hgb⟩ : ∃ g, g = wS.heap.size := ⟨_, rfl⟩
  rw [← hg9] at hcy ⊢
  rw [← hgb] at hcx ⊢
  have hgg : gb < g9 := by omega
  have hgw : w.heap.size ≤ g9 := by have := HGS.out; omega
  have X0 : Hid (CH w gb [.string o, .int .u16 6, .int .u32 9, .string DN] (.slice (some ⟨g9, 0, none⟩) 1 1) 1 [.string o, .int .u16 6, .int .u32 9, .string DN] wL) := Lib.hid ⟨obm_of_cs9 hbx hbx.size hgw hcy, hcx, fun q hq => by injection hq with hq; subst hq; exact hgg⟩
  clear hcx hcy hbx hg9 hgb hgg hgw H3 HGS
  go_wp2_with fail
  go_loopw [9, 10] (fun v9 vk wr => ∃ k : Nat, k ≤ N ∧ vk = .int .i64 (k : Nat) ∧ Hid (CH w gb [.string o, .int .u16 6, .int .u32 9, .string DN] v9 (1 + (chainK o fr rows k).length) ([.string o, .int .u16 6, .int .u32 9, .string DN] ++ flatR (chainK o fr rows k)) wr)) (fun _ vk _ => N - (intOf vk).toNat)
  case atStart => exact ⟨0, Nat.zero_le _, rfl, X0⟩
  case round =>
    obtain ⟨k, hk, rfl, HX⟩ := hrel
    by_cases hlt : k < N
    · have hlt' : (k : Int) < N := by omega
      have hn4 := HNN.out.1
      have hn2 := HNN.out.2
      obtain ⟨hwk1, hwk2, hwk3⟩ := HW.out k (by omega)
      obtain ⟨K2, hK2⟩ : ∃ q, q = 2 * k := ⟨_, rfl⟩
      obtain ⟨K3, hK3⟩ : ∃ q, q = 2 * k + 1 := ⟨_, rfl⟩
      obtain ⟨⟨A1, n1, c1, d1⟩, hr1⟩ : ∃ r, rows[K2]? = some r := ⟨_, List.getElem?_eq_getElem (by rw [HH.out.len]; omega)⟩
      obtain ⟨⟨A2, n2, c2, d2⟩, hr2⟩ : ∃ r, rows[K3]? = some r := ⟨_, List.getElem?_eq_getElem (by rw [HH.out.len]; omega)⟩
      obtain ⟨bb, off, rfl, hbb, hcl1⟩ := HH.out.at_ K2 _ hr1
      obtain ⟨_, _, hAe, _, hcl2⟩ := HH.out.at_ K3 _ hr2
      injection hAe with hAe; injection hAe with e1 e2; subst e1 e2
      have ac1 := HH.out.acts K2 _ hr1
      have ac2 := HH.out.acts K3 _ hr2
      obtain ⟨U1, hU1⟩ : ∃ U, U = undersOf o false d1 5 := ⟨_, rfl⟩
      obtain ⟨U2, hU2⟩ : ∃ U, U = undersOf o false d2 5 := ⟨_, rfl⟩
      have UN1 : Hid (∀ wx, Below w.heap.size w wx → Calls Try.prog 6 #[.string o, .slice A1 n1 c1, .int .i64 5, .bool false] wx fun e w' => ∃ v, e = .returned v ∧ OBM 4 wx.heap.size wx v U1.length (flatR U1) w') := Lib.hid (fun wx hb => by rw [hU1]; exact under_any o A1 n1 c1 5 false d1 wx (ac1.1.below hb) ac1.2 (by decide) (Nat.le_trans hob (by decide)))
      have UN2 : Hid (∀ wx, Below w.heap.size w wx → Calls Try.prog 6 #[.string o, .slice A2 n2 c2, .int .i64 5, .bool false] wx fun e w' => ∃ v, e = .returned v ∧ OBM 4 wx.heap.size wx v U2.length (flatR U2) w') := Lib.hid (fun wx hb => by rw [hU2]; exact under_any o A2 n2 c2 5 false d2 wx (ac2.1.below hb) ac2.2 (by decide) (Nat.le_trans hob (by decide)))
      have hKC1 : Hid (∀ wx, Below w.heap.size w wx → wx.cell? ⟨bb, off + K2, none⟩ = some (.slice A1 n1 c1)) := Lib.hid (fun wx hb => (hb.cell (p := ⟨bb, off + K2, none⟩) hbb).trans hcl1)
      have hKC2 : Hid (∀ wx, Below w.heap.size w wx → wx.cell? ⟨bb, off + K3, none⟩ = some (.slice A2 n2 c2)) := Lib.hid (fun wx hb => (hb.cell (p := ⟨bb, off + K3, none⟩) hbb).trans hcl2)
      have hst : chainK o fr rows (k + 1) = chainK o fr rows k ++ ([soaR o (serP fr k)] ++ U1 ++ [soaR o (serP fr (k + 1))] ++ U2) := by
        show chainK o fr rows k ++ stepR o fr rows k = _
        unfold stepR rowAt
        rw [← hK3, ← hK2, hr1, hr2, hU1, hU2]
        rfl
      obtain ⟨l1, l2, l3, l4⟩ := ch_len o fr rows k N hlt hn4 U1.length U2.length (by rw [hU1, undersOf_len]; omega) (by rw [hU2, undersOf_len]; omega)
      have LN1 := Lib.hid (len_max l1)
      have LN2 := Lib.hid (len_max l2)
      have LN3 := Lib.hid (len_max l3)
      have LN4 := Lib.hid (len_max l4)
      have S1C := SO.out k
      have S2C := SO.out (k + 1)
      obtain ⟨D1, hD1⟩ : ∃ D, D = soaD (serP fr k) := ⟨_, rfl⟩
      obtain ⟨D2, hD2⟩ : ∃ D, D = soaD (serP fr (k + 1)) := ⟨_, rfl⟩
      rw [← hD1] at S1C
      rw [← hD2] at S2C
      have hfl : flatR (chainK o fr rows (k + 1)) = flatR (chainK o fr rows k) ++ ([.string o, .int .u16 6, .int .u32 9, .string D1] ++ flatR U1 ++ [.string o, .int .u16 6, .int .u32 9, .string D2] ++ flatR U2) := by
        rw [hst, hD1, hD2]
        unfold flatR
        simp [recCells, soaR]
      have hln : (chainK o fr rows (k + 1)).length = (chainK o fr rows k).length + (1 + U1.length + 1 + U2.length) := by
        rw [hst]; simp; omega
      have HFL := Lib.hid hfl
      have HLN := Lib.hid hln
      obtain ⟨S1, hS1⟩ : ∃ q, q = serP fr k := ⟨_, rfl⟩
      obtain ⟨S2, hS2⟩ : ∃ q, q = serP fr (k + 1) := ⟨_, rfl⟩
      rw [← hS1] at S1C hwk2 hwk3
      rw [← hS2] at S2C hwk3
      have S1C := Lib.hid S1C
      have S2C := Lib.hid S2C
      obtain ⟨m1, m2, m3, m4, m5, m6, m7, m8⟩ := idx_facts k K2 K3 N np hK2 hK3 hlt hn4 hn2
      clear hK2 hK3 hr1 hr2 hbb hcl1 hcl2 ac1 ac2 hU1 hU2 hst l1 l2 l3 l4 hD1 hD2 hfl hln hS1 hS2 hn4 hn2
      go_wp2_with fail
      refine (S1C.out _).mono ?_
      rintro e waB ⟨rfl, hb⟩
      have hcB := Lib.hid ((HX.out.below hb).alloc (.cells #[.string o, .int .u16 6, .int .u32 9, .string D1] 32))
      have hSB : Hid (Src Try.prog 4 24 (.slice (some ⟨waB.heap.size, 0, none⟩) 1 1) 1 [.string o, .int .u16 6, .int .u32 9, .string D1] (waB.alloc (.cells #[.string o, .int .u16 6, .int .u32 9, .string D1] 32))) := by
        refine Lib.hid (Src.ofSlice _ Try.underlying24 _ 1 1 _ rfl ?_ (recCells_one (o, 6, 9, D1)))
        exact news_at waB #[.string o, .int .u16 6, .int .u32 9, .string D1] _
      have hoB := Lib.hid hcB.out.obm
      clear hb
      go_wp2_with (first | (at_builtin; go_loud (refine wpList_append_obm rfl _ _ 24 24 rfl 32 i0 _ 40 Try.underlying24 hi hz0 hz1 hz2 rfl hoB.out rfl rfl hSB.out rfl LN1.out.1 LN1.out.2 ?_)))
      intro vB wB q1 q2 q3 q4
      have XB := Lib.hid (hcB.out.app q1 (by simpa using q2) (fun k hk hne => q3 k (by simpa using hk) hne) (by simpa using q4))
      clear q1 q2 q3 q4 hoB hSB hcB
      have kc1 := hKC1.out wB XB.out.obm.bel
      go_wp2_with fail
      refine (UN1.out _ XB.out.obm.bel).mono ?_
      rintro e waC ⟨vCu, rfl, hu⟩
      obtain ⟨AC, CC, rfl, -, -, gC⟩ := hu.slice
      have hcC := Lib.hid (XB.out.below hu.bel)
      have hSC : Hid (Src Try.prog 4 24 (.slice AC U1.length CC) U1.length (flatR U1) waC) := Lib.hid (Sl.srcM Try.underlying24 hu.sl (fun e => (gC e).1) (flatR_one U1))
      have hoC := Lib.hid hcC.out.obm
      clear hu gC
      go_wp2_with (first | (at_builtin; go_loud (refine wpList_append_obm rfl _ _ 24 24 rfl 32 i0 _ 40 Try.underlying24 hi hz0 hz1 hz2 rfl hoC.out rfl rfl hSC.out (flatR_len U1) LN2.out.1 LN2.out.2 ?_)))
      intro vC wC q1 q2 q3 q4
      have XC := Lib.hid (hcC.out.app q1 q2 q3 q4)
      clear q1 q2 q3 q4 hoC hSC hcC
      clear kc1
      go_wp2_with fail
      refine (S2C.out _).mono ?_
      rintro e waD ⟨rfl, hb⟩
      have hcD := Lib.hid ((XC.out.below hb).alloc (.cells #[.string o, .int .u16 6, .int .u32 9, .string D2] 32))
      have hSD : Hid (Src Try.prog 4 24 (.slice (some ⟨waD.heap.size, 0, none⟩) 1 1) 1 [.string o, .int .u16 6, .int .u32 9, .string D2] (waD.alloc (.cells #[.string o, .int .u16 6, .int .u32 9, .string D2] 32))) := by
        refine Lib.hid (Src.ofSlice _ Try.underlying24 _ 1 1 _ rfl ?_ (recCells_one (o, 6, 9, D2)))
        exact news_at waD #[.string o, .int .u16 6, .int .u32 9, .string D2] _
      have hoD := Lib.hid hcD.out.obm
      clear hb
      go_wp2_with (first | (at_builtin; go_loud (refine wpList_append_obm rfl _ _ 24 24 rfl 32 i0 _ 40 Try.underlying24 hi hz0 hz1 hz2 rfl hoD.out rfl rfl hSD.out rfl LN3.out.1 LN3.out.2 ?_)))
      intro vD wD q1 q2 q3 q4
      have XD := Lib.hid (hcD.out.app q1 (by simpa using q2) (fun k hk hne => q3 k (by simpa using hk) hne) (by simpa using q4))
      clear q1 q2 q3 q4 hoD hSD hcD
      have kc2 := hKC2.out wD XD.out.obm.bel
      go_wp2_with fail
      refine (UN2.out _ XD.out.obm.bel).mono ?_
      rintro e waE ⟨vEu, rfl, hu⟩
      obtain ⟨AE, CE, rfl, -, -, gE⟩ := hu.slice
      have hcE := Lib.hid (XD.out.below hu.bel)
      have hSE : Hid (Src Try.prog 4 24 (.slice AE U2.length CE) U2.length (flatR U2) waE) := Lib.hid (Sl.srcM Try.underlying24 hu.sl (fun e => (gE e).1) (flatR_one U2))
      have hoE := Lib.hid hcE.out.obm
      clear hu gE
      go_wp2_with (first | (at_builtin; go_loud (refine wpList_append_obm rfl _ _ 24 24 rfl 32 i0 _ 40 Try.underlying24 hi hz0 hz1 hz2 rfl hoE.out rfl rfl hSE.out (flatR_len U2) LN4.out.1 LN4.out.2 ?_)))
      intro vE wE q1 q2 q3 q4
      have XE := Lib.hid (hcE.out.app q1 q2 q3 q4)
      clear q1 q2 q3 q4 hoE hSE hcE
      clear kc2
      go_wp2_with fail
      go_round
      case rel =>
        refine ⟨k + 1, hlt, by go_num, Lib.hid ?_⟩
        have h := XE.out
        rw [HFL.out, HLN.out]
        have e1 : 1 + ((chainK o fr rows k).length + (1 + U1.length + 1 + U2.length)) = 1 + (chainK o fr rows k).length + 1 + U1.length + 1 + U2.length := by omega
        rw [e1]
        simpa using h
      case measure => simp [intOf]; omega
    · have hlt' : ¬ (k : Int) < N := by omega
      obtain rfl : k = N := by omega
      have HRX := Lib.hid HX.out.box.range
      have hlen : 1 + (chainK o fr rows k).length + 1 ≤ 100 := by have := chainK_len o fr rows k; have := HNN.out.1; omega
      have LN := Lib.hid (len_max hlen)
      have hcF := Lib.hid (HX.out.alloc (.cells #[.string o, .int .u16 6, .int .u32 9, .string DN] 32))
      have hSF : Hid (Src Try.prog 4 24 (.slice (some ⟨wr.heap.size, 0, none⟩) 1 1) 1 [.string o, .int .u16 6, .int .u32 9, .string DN] (wr.alloc (.cells #[.string o, .int .u16 6, .int .u32 9, .string DN] 32))) := by
        refine Lib.hid (Src.ofSlice _ Try.underlying24 _ 1 1 _ rfl ?_ (recCells_one (o, 6, 9, DN)))
        exact news_at wr #[.string o, .int .u16 6, .int .u32 9, .string DN] _
      have hoF := Lib.hid hcF.out.obm
      clear hlen hlt
      go_wp2_with (first | (at_builtin; go_loud (refine wpList_append_obm rfl _ _ 24 24 rfl 32 i0 _ 40 Try.underlying24 hi hz0 hz1 hz2 rfl hoF.out rfl rfl hSF.out rfl LN.out.1 LN.out.2 ?_)) | refine wpList_load_mid rfl 32 _ rfl gb 0 rfl _ _ HRX.out Try.underlying32 rfl (by kernel_rfl) ?_)
      intro vF wF q1 q2 q3 q4
      have QF := Lib.hid q1
      clear q1 q2 q3 q4
      go_wp2_with fail
      go_ret
      have hl2 : (chainR o fr rows k).length = 1 + (chainK o fr rows k).length + 1 := by unfold chainR; simp; omega
      have hf2 : flatR (chainR o fr rows k) = [.string o, .int .u16 6, .int .u32 9, .string DN] ++ flatR (chainK o fr rows k) ++ [.string o, .int .u16 6, .int .u32 9, .string DN] := by
        unfold chainR flatR
        rw [HDN.out]
        simp [recCells, soaR]
      refine ⟨_, rfl, ?_⟩
      rw [hl2, hf2]
      exact QF.out
end Go.Proofs.Ytkpjehplchdmgaa
namespace Go.Proofs.Ytkpjehplchdmgaa
open Go.RowKit
set_option linter.unusedVariables false
theorem soaD_inj {m n : Nat} (hm : m < 4294967296) (hn : n < 4294967296) (h : soaD m = soaD n) : m = n := by
  have h2 : dataL (nameZ []) (nameZ []) [m, 10, 3, 40, 1] = dataL (nameZ []) (nameZ []) [n, 10, 3, 40, 1] := by
    have := congrArg (fun b : ByteArray => b.data.toList) h
    simpa [soaD] using this
  have hM : mayL (nameZ []) := by unfold mayL; decide +kernel
  have := (dataL_inj hM hM hM hM rfl rfl (by intro x hx; simp at hx; omega) (by intro x hx; simp at hx; omega) h2).2.2
  injection this
theorem eqB_soa (o : ByteArray) {m n : Nat} (hm : m < 4294967296) (hn : n < 4294967296) : eqB (soaR o m) (soaR o n) = decide (m = n) := by
  by_cases h : m = n
  · subst h; rw [eqB_refl, decide_eq_true rfl]
  · rw [decide_eq_false h]
    cases he : eqB (soaR o m) (soaR o n) with
    | false => rfl
    | true =>
      have := (eqB_iff _ _).1 he
      unfold soaR at this
      injection this with _ this
      injection this with _ this
      injection this with _ this
      exact absurd (soaD_inj hm hn this) h
theorem cntR_append (a : RecT) (l m : List RecT) : cntR a (l ++ m) = cntR a l + cntR a m := by
  unfold cntR
  rw [List.filter_append, List.length_append]
theorem cntR_soa (o : ByteArray) {m n : Nat} (hm : m < 4294967296) (hn : n < 4294967296) : cntR (soaR o n) [soaR o m] = if m = n then 1 else 0 := by
  unfold cntR
  rw [List.filter_cons, eqB_soa o hm hn]
  by_cases h : m = n <;> simp [h]
theorem underR_type (o : ByteArray) (a : ActT) : (underR o false a).2.1 ≠ 6 := by
  unfold underR
  by_cases h : ((recOf a).2.1 == 6) = true
  · rw [if_pos h, if_neg (by simp)]; show (16 : Int) ≠ 6; decide
  · rw [if_neg h]; simpa using h
theorem cntR_unders (o : ByteArray) (n : Nat) (ds : List ActT) (k : Nat) : cntR (soaR o n) (undersOf o false ds k) = 0 := by
  unfold cntR undersOf
  rw [List.length_eq_zero_iff, List.filter_eq_nil_iff]
  intro r hr
  obtain ⟨x, _, rfl⟩ := List.mem_map.1 hr
  intro he
  have := (eqB_iff _ _).1 he
  exact underR_type o x (by rw [this]; rfl)
theorem serP_ne (fr : Nat) {j k : Nat} (hj : j ≤ 4) (hk : k ≤ 4) : serP fr j = serP fr k ↔ j = k := by
  unfold serP; omega
theorem cntR_step (o : ByteArray) (fr : Nat) (rows : List RowA) (N k : Nat) (hN : N ≤ 4) (hk : k + 1 ≤ 4) : cntR (soaR o (serP fr N)) (stepR o fr rows k) = (if k = N then 1 else 0) + (if k + 1 = N then 1 else 0) := by
  unfold stepR
  rw [cntR_append, cntR_append, cntR_append, cntR_unders, cntR_unders, cntR_soa o (serP_lt _ _) (serP_lt _ _), cntR_soa o (serP_lt _ _) (serP_lt _ _)]
  simp only [serP_ne fr (show k ≤ 4 by omega) hN, serP_ne fr hk hN]
  omega
theorem cntR_chain (o : ByteArray) (fr : Nat) (rows : List RowA) (N : Nat) (hN : N ≤ 4) : ∀ k, k ≤ N → cntR (soaR o (serP fr N)) (chainK o fr rows k) = if k = N ∧ 0 < N then 1 else 0
  | 0, _ => by
    unfold chainK cntR
    by_cases h : 0 = N ∧ 0 < N
    · omega
    · rw [if_neg h]; rfl
  | k + 1, h => by
    unfold chainK
    rw [cntR_append, cntR_chain o fr rows N hN k (by omega), cntR_step o fr rows N k hN (by omega)]
    rw [if_neg (by omega), if_neg (by omega)]
    by_cases h2 : k + 1 = N
    · rw [if_pos h2, if_pos (by omega)]
    · rw [if_neg h2, if_neg (by omega)]
theorem chainK_first (o : ByteArray) (fr : Nat) (rows : List RowA) : ∀ k, 0 < k → ∃ t, chainK o fr rows k = soaR o (serP fr 0) :: t
  | 0, h => absurd h (by omega)
  | 1, _ => ⟨_, by unfold chainK chainK stepR; rfl⟩
  | k + 2, _ => by
    obtain ⟨t, ht⟩ := chainK_first o fr rows (k + 1) (by omega)
    refine ⟨t ++ stepR o fr rows (k + 1), ?_⟩
    rw [chainK, ht]; rfl
/-- The whole chain is all there. -/
theorem chain_done (o : ByteArray) (fr : Nat) (rows : List RowA) (N : Nat) (hN : N ≤ 4) : doneR (chainR o fr rows N) = true := by
  have hc : cntR (soaR o (serP fr N)) (chainR o fr rows N) = 2 + if 0 < N then 1 else 0 := by
    unfold chainR
    rw [cntR_append, cntR_append, cntR_chain o fr rows N hN N (Nat.le_refl _), cntR_soa o (serP_lt _ _) (serP_lt _ _), if_pos rfl]
    by_cases h : 0 < N <;> simp [h]
  rcases Nat.eq_zero_or_pos N with h0 | h0
  · subst h0
    unfold chainR chainK
    show (if (soaB _ && !(eqB _ _)) = true then _ else _) = true
    rw [eqB_refl]
    have h2 : cntR (soaR o (serP fr 0)) [soaR o (serP fr 0), soaR o (serP fr 0)] = 2 := hc
    simp [h2]
  · obtain ⟨t, ht⟩ := chainK_first o fr rows N h0
    rw [if_pos h0] at hc
    unfold chainR at hc ⊢
    rw [ht] at hc ⊢
    show (if (soaB _ && !(eqB _ _)) = true then decide (3 ≤ cntR _ _) else decide (2 ≤ cntR _ _)) = true
    have h3 : cntR (soaR o (serP fr N)) (soaR o (serP fr N) :: soaR o (serP fr 0) :: (t ++ [soaR o (serP fr N)])) = 3 := hc
    split <;> simp [h3]
/-- No beginning of it is. -/
theorem chain_part (o : ByteArray) (fr : Nat) (rows : List RowA) (N : Nat) (hN : N ≤ 4) (h0 : 0 < N) (k : Nat) (h2 : 2 ≤ k) (hk : k < (chainR o fr rows N).length) : doneR ((chainR o fr rows N).take k) = false := by
  obtain ⟨t, ht⟩ := chainK_first o fr rows N h0
  have hi : cntR (soaR o (serP fr N)) ([soaR o (serP fr N)] ++ chainK o fr rows N) = 2 := by
    rw [cntR_append, cntR_chain o fr rows N hN N (Nat.le_refl _), cntR_soa o (serP_lt _ _) (serP_lt _ _), if_pos rfl, if_pos ⟨rfl, h0⟩]
  have htk : (chainR o fr rows N).take k = ([soaR o (serP fr N)] ++ chainK o fr rows N).take k := by
    unfold chainR at hk ⊢
    rw [List.take_append_of_le_length]
    simp at hk ⊢
    omega
  have hle : cntR (soaR o (serP fr N)) (([soaR o (serP fr N)] ++ chainK o fr rows N).take k) ≤ 2 := by
    rw [← hi]
    unfold cntR
    exact ((List.take_sublist _ _).filter _).length_le
  rw [htk]
  rw [ht] at hle ⊢
  obtain ⟨j, rfl⟩ : ∃ j, k = j + 2 := ⟨k - 2, by omega⟩
  have e : ([soaR o (serP fr N)] ++ soaR o (serP fr 0) :: t).take (j + 2) = soaR o (serP fr N) :: soaR o (serP fr 0) :: t.take j := rfl
  rw [e] at hle ⊢
  show (if (soaB _ && !(eqB _ _)) = true then decide (3 ≤ cntR _ _) else decide (2 ≤ cntR _ _)) = false
  have hs : soaB (soaR o (serP fr 0)) = true := rfl
  rw [hs, eqB_soa o (serP_lt _ _) (serP_lt _ _), decide_eq_false (fun h => by have := (serP_ne fr (show 0 ≤ 4 by omega) hN).1 h; omega)]
  rw [if_pos (show (true && !false) = true from rfl)]
  exact decide_eq_false (by omega)
theorem chainR_len (o : ByteArray) (fr : Nat) (rows : List RowA) (N : Nat) (hN : N ≤ 4) : (chainR o fr rows N).length ≤ 50 := by
  have := chainK_len o fr rows N
  unfold chainR
  simp
  omega
end Go.Proofs.Ytkpjehplchdmgaa
namespace Go.Proofs.Ytkpjehplchdmgaa
open Go.RowKit
set_option linter.unusedVariables false
set_option linter.unusedSimpArgs false
set_option maxRecDepth 20000
set_option maxHeartbeats 6400000 in
theorem streamParts_walk (w : World) (z : Int) (hz : (Lit.int .u8 z).wf = true) (f0 : Int) (hf : (Lit.int .u32 f0).wf = true) (A : Option Addr) (n c : Nat) (rows : List RowA) (hR : Rows9 w A n rows) (hle : n ≤ c) (hmx : c ≤ maxLen) :
    Calls Try.prog 4 #[.int .u8 z, .int .u32 f0, .slice A n c] w fun e w' => e = .returned (.bool true) ∧ Below w.heap.size w w' := by
  have hz8 := u8_wf hz
  have hf32 := u32_wf hf
  obtain ⟨on, rfl⟩ : ∃ on : Nat, z = on := ⟨z.toNat, by omega⟩
  obtain ⟨fr, rfl⟩ : ∃ fr : Nat, f0 = fr := ⟨f0.toNat, by omega⟩
  have OG := Lib.hid (fun w => origin_any on (by omega) w)
  have hob := originB_le on
  generalize originB on = o at *
  have hnm : n ≤ 9223372036854775807 := Nat.le_trans hle (Nat.le_trans hmx (by decide))
  obtain ⟨N, hN⟩ : ∃ N, N = min (n / 2) 4 := ⟨_, rfl⟩
  have hN4 : N ≤ 4 := by omega
  obtain ⟨rs, hrs⟩ : ∃ rs, rs = chainR o fr rows N := ⟨_, rfl⟩
  have HD : Hid (doneR rs = true) := Lib.hid (by rw [hrs]; exact chain_done o fr rows N hN4)
  have HP : Hid (0 < N → ∀ k, 2 ≤ k → k < rs.length → doneR (rs.take k) = false) := Lib.hid (by rw [hrs]; exact fun h0 k h2 hk => chain_part o fr rows N hN4 h0 k h2 hk)
  have hrl : rs.length ≤ 50 := by rw [hrs]; exact chainR_len o fr rows N hN4
  have hr2 : 2 ≤ rs.length := by rw [hrs]; unfold chainR; simp
  have CH : Hid (∀ wx, Below w.heap.size w wx → Calls Try.prog 9 #[.string o, .int .u32 (fr : Nat), .slice A n c] wx fun e w' => ∃ VS CS, e = .returned (.slice VS rs.length CS) ∧ rs.length ≤ CS ∧ Recs w' VS rs ∧ Below wx.heap.size wx w') := Lib.hid (fun wx hb => (chain_any o fr A n c rows wx (hR.below hb) (by omega) (Nat.le_trans hob (by decide)) hnm).mono (by
    rintro e w' ⟨v, rfl, ho⟩
    rw [← hN, ← hrs] at ho
    obtain ⟨A', c', rfl, g1, g2, g3⟩ := ho.slice
    exact ⟨A', c', rfl, g1, ho.recs rfl, ho.bel⟩))
  have hn2 : n < 2 ∨ (2 ≤ n ∧ 0 < N) := by omega
  clear hz hrs hR hz8 hob hf hf32 hN hN4 hle hmx
  have HNM := Lib.hid hnm
  clear hnm
  rcases hn2 with hn2 | ⟨hn2, hN0⟩
  · have hn2' : (n : Int) < 2 := by omega
    go_enter Try.func4, Try.ntmps4
    go_wp2_with fail
    refine (awake09_any _).mono ?_
    rintro e w1 ⟨rfl, hb1⟩
    have HB1 := Lib.hid hb1
    clear hb1
    go_wp2_with fail
    refine (OG.out _).mono ?_
    rintro e w2 ⟨rfl, hb2⟩
    have HB2 := Lib.hid (below_trans HB1.out HB1.out.size hb2)
    clear hb2 OG
    go_wp2_with fail
    refine (CH.out _ HB2.out).mono ?_
    rintro e w4 ⟨VS, CS, rfl, hcs, hrec, hb4⟩
    have HB4 := Lib.hid (below_trans HB2.out HB2.out.size hb4)
    have H := Lib.hid hrec
    have DN : Hid (Calls Try.prog 8 #[.slice VS rs.length CS] w4 fun e w' => e = .returned (.bool true) ∧ Below w4.heap.size w4 w') := Lib.hid (by
      have := done_any VS rs.length CS rs w4 H.out rfl (by omega)
      rwa [HD.out] at this)
    clear hb4 hrec CH
    go_wp2_with fail
    refine DN.out.mono ?_
    rintro e w8 ⟨rfl, hb8⟩
    have HB8 := Lib.hid (below_trans HB4.out HB4.out.size hb8)
    clear hb8
    go_wp2_with fail
    go_ret
    exact ⟨rfl, HB8.out⟩
  · have hn2' : ¬ (n : Int) < 2 := by omega
    have HPX := Lib.hid (HP.out hN0)
    clear HP hN0
    go_enter Try.func4, Try.ntmps4
    go_wp2_with fail
    refine (awake09_any _).mono ?_
    rintro e w1 ⟨rfl, hb1⟩
    have HB1 := Lib.hid hb1
    clear hb1
    go_wp2_with fail
    refine (OG.out _).mono ?_
    rintro e w2 ⟨rfl, hb2⟩
    have HB2 := Lib.hid (below_trans HB1.out HB1.out.size hb2)
    clear hb2 OG
    go_wp2_with fail
    refine (CH.out _ HB2.out).mono ?_
    rintro e w4 ⟨VS, CS, rfl, hcs, hrec, hb4⟩
    have HB4 := Lib.hid (below_trans HB2.out HB2.out.size hb4)
    obtain ⟨m, hm⟩ : ∃ m, m = rs.length := ⟨_, rfl⟩
    rw [← hm] at hcs hrl hr2 ⊢
    have HL := Lib.hid hm.symm
    have H := Lib.hid hrec
    have DN : Hid (∀ wx, Below w4.heap.size w4 wx → Calls Try.prog 8 #[.slice VS m CS] wx fun e w' => e = .returned (.bool true) ∧ Below wx.heap.size wx w') := Lib.hid (fun wx hb => by
      have := done_any VS m CS rs wx (H.out.below hb) HL.out (by omega)
      rwa [HD.out] at this)
    have DP : Hid (∀ k wx, 2 ≤ k → k < m → Below w4.heap.size w4 wx → Calls Try.prog 8 #[.slice VS k CS] wx fun e w' => e = .returned (.bool false) ∧ Below wx.heap.size wx w') := Lib.hid (fun k wx h2 hk hb => by
      have hrk : Recs wx VS (rs.take k) := fun i r hr => (H.out.below hb) i r (by
        rw [List.getElem?_take] at hr
        split at hr
        · exact hr
        · cases hr)
      have := done_any VS k CS (rs.take k) wx hrk (by rw [List.length_take, HL.out]; omega) (by omega)
      rwa [HPX.out k h2 (by rw [HL.out]; exact hk)] at this)
    clear hb4 hm hrec CH H HL HPX HD
    go_wp2_with fail
    go_loopw [8] (fun i wr => ∃ k : Nat, 2 ≤ k ∧ k ≤ m ∧ i = .int .i64 k ∧ Hid (Below w4.heap.size w4 wr)) (fun i _ => m - (intOf i).toNat)
    case atStart => exact ⟨2, Nat.le_refl _, hr2, rfl, Lib.hid (Below.refl _ _)⟩
    case round =>
      obtain ⟨k, hk2, hk, rfl, HB⟩ := hrel
      by_cases hlt : k < m
      · have hlt' : (k : Int) < m := by omega
        have hkc : k ≤ CS := by omega
        have hk0 : ¬ (k : Int) < 0 := by omega
        go_wp2_with fail
        refine (DP.out k _ hk2 hlt HB.out).mono ?_
        rintro e w8 ⟨rfl, hb8⟩
        have HB8 := Lib.hid (below_trans HB.out HB.out.size hb8)
        clear hb8
        go_wp2_with fail
        go_round
        case rel => exact ⟨k + 1, by omega, by omega, by go_num, HB8⟩
        case measure => simp [intOf]; omega
      · have hlt' : ¬ (k : Int) < m := by omega
        go_wp2_with fail
        refine (DN.out _ HB.out).mono ?_
        rintro e w8 ⟨rfl, hb8⟩
        have HB8 := Lib.hid (below_trans HB4.out HB4.out.size (below_trans HB.out HB.out.size hb8))
        clear hb8
        go_wp2_with fail
        go_ret
        exact ⟨rfl, HB8.out⟩
end Go.Proofs.Ytkpjehplchdmgaa
namespace Go.Proofs.Ytkpjehplchdmgaa
open Go.ChangeShapes Go.WideShapes Go.ChangeAt Go.RowKit Go.Deep
set_option linter.unusedVariables false
section
variable {H : Type} {enc : TypeId × Value → H} {P : Program} {w : World} {d : DataW H} {p : List MemPlace}
def rowAV (r : RowA) : Value := .slice r.1 r.2.1 r.2.2.1
theorem view_rowsA {t e g b0 b3 : TypeId} {f0 f1 f2 f3 f4 : Field} (ht : P.underlying t = some (.slice e)) (hc : P.cellsOf e = 1) (he : P.underlying e = some (.slice g)) (hs : P.underlying g = some (.struct #[f0, f1, f2, f3, f4])) (hone : oneCellFields P #[f0, f1, f2, f3, f4] = true) (hC : P.cellsOf g = 5)
    (h0 : P.underlying f0.type = some (.slice b0)) (hb0 : P.underlying b0 = some (.int .u8)) (hcb0 : P.cellsOf b0 = 1) (hbb0 : P.bytesOf b0 = 1) (h1 : P.underlying f1.type = some (.int .u8)) (h2 : P.underlying f2.type = some (.int .u32))
    (h3 : P.underlying f3.type = some (.slice b3)) (hb3 : P.underlying b3 = some (.int .u8)) (hcb3 : P.cellsOf b3 = 1) (hbb3 : P.bytesOf b3 = 1) (h4 : P.underlying f4.type = some .string) {m : Nat} {cs : List Value}
    (h : DataW.trod enc P w 0 (fun _ => true) true m t cs = some (d, p)) :
    ∃ A n c, ∃ rows : List RowA, cs = [.slice A n c] ∧ Rows9 w A n rows ∧ n ≤ c ∧ c ≤ maxLen ∧ (A = none → n = 0 ∧ c = 0) := by
  obtain ⟨A, n, c, vs, hcs, hS, hl, hd⟩ := view_slice1 ht hc h
  rcases hd with ⟨rfl, rfl, rfl⟩ | ⟨el, sp, rfl, hel, hsp, hj⟩
  · exact ⟨A, 0, 0, [], hcs, ⟨rfl, fun i r hr => by simp at hr, fun i r hr => by simp at hr⟩, Nat.le_refl _, Nat.zero_le _, hS.none_⟩
  · obtain ⟨xs, h1', h2', h3'⟩ := choose_list2 (γ := RowA × DataW H) (f := fun x => rowAV x.1) (g := fun x => x.2) (p := fun x => ActsAt w x.1.1 x.1.2.1 x.1.2.2.2 ∧ x.1.2.1 ≤ maxLen) vs el (by omega) (fun j hjj => by
      obtain ⟨u, D, pl, m', a, b', ht'⟩ := hj j (by omega)
      obtain ⟨A', n', c', zs, el', e1, hS', -, -, -⟩ := view_acts5 he hs hone hC h0 hb0 hcb0 hbb0 h1 h2 h3 hb3 hcb3 hbb3 h4 ht'
      simp only [List.cons.injEq, and_true] at e1
      exact ⟨((A', n', c', zs), D), by rw [a, e1]; rfl, b', hS'.at_, hS'.most⟩)
    subst h1' h2'
    have hlx : xs.length = n := by simpa using hl
    refine ⟨A, n, c, xs.map (·.1), hcs, ⟨by simpa using hl, fun i r hr => ?_, fun i r hr => ?_⟩, hS.le, hS.max, hS.none_⟩
    · rw [List.getElem?_map, Option.map_eq_some_iff] at hr
      obtain ⟨x, hx, rfl⟩ := hr
      have hi : i < n := by have := (List.getElem?_eq_some_iff.1 hx).1; omega
      obtain ⟨b, off, u, hA, hlt, hu, hcell⟩ := hS.sl.at_ hi
      rw [List.getElem?_map, hx] at hu
      cases hu
      exact ⟨b, off, hA, hlt, hcell⟩
    · rw [List.getElem?_map, Option.map_eq_some_iff] at hr
      obtain ⟨x, hx, rfl⟩ := hr
      exact h3' x (List.mem_of_getElem? hx)
end
end Go.Proofs.Ytkpjehplchdmgaa
