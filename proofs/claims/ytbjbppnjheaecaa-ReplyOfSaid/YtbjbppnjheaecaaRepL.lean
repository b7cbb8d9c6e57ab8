/- A reply that has a policy's records, in general. -/
import Derived.Test.YtbjbppnjheaecaaRepK
import Derived.Test.YtbjbppnjheaecaaRecB
import Derived.Outline
namespace Go.Proofs.Ytbjbppnjheaecaa
open Go.RowKit
set_option linter.unusedVariables false
set_option linter.unusedSimpArgs false
set_option maxRecDepth 20000
/-- The records of a type, under another name. -/
def locR (qn : ByteArray) (qt : Int) (rs : List RecT) : List RecT := (rs.filter fun r => r.2.1 == qt).map fun r => (qn, r.2)
theorem locR_yes {qn : ByteArray} {qt : Int} {rs : List RecT} {k : Nat} {r : RecT} (hr : rs[k]? = some r) (h : (r.2.1 == qt) = true) : locR qn qt (rs.take (k + 1)) = locR qn qt (rs.take k) ++ [(qn, r.2)] := by
  unfold locR
  rw [List.take_add_one, hr]
  simp [List.filter_append, h]
theorem locR_no {qn : ByteArray} {qt : Int} {rs : List RecT} {k : Nat} {r : RecT} (hr : rs[k]? = some r) (h : (r.2.1 == qt) = false) : locR qn qt (rs.take (k + 1)) = locR qn qt (rs.take k) := by
  unfold locR
  rw [List.take_add_one, hr]
  simp [List.filter_append, h]
theorem locR_len (qn : ByteArray) (qt : Int) (rs : List RecT) : (locR qn qt rs).length ≤ rs.length := by
  unfold locR
  rw [List.length_map]
  exact List.length_filter_le _ _
theorem OBM.here {sz B : Nat} {W w : World} {v : Value} {n : Nat} {l : List Value} (h : OBM sz B W v n l w) : OBM sz B w v n l w := ⟨Below.refl _ _, h.base, h.len, h.own⟩
theorem OBM.setOther {sz B : Nat} {W w : World} {v : Value} {n : Nat} {l : List Value} (h : OBM sz B W v n l w) (g j : Nat) (u : Value) (hg : g < B) : OBM sz B (w.setCell ⟨g, j, none⟩ u) v n l (w.setCell ⟨g, j, none⟩ u) :=
by
  refine ⟨Below.refl _ _, by simpa using h.base, h.len, ?_⟩
  rcases h.own with hn | ⟨g', cap, rfl, h1, h2, h3, h4, h5, h6⟩
  · exact .inl hn
  · have hg' := Below.heap_setCell w ⟨g, j, none⟩ u g' (by show g' ≠ g; omega)
    refine .inr ⟨g', cap, rfl, h1, by simpa using h2, h3, h4, fun i hi => ?_, fun i u' hu => ?_⟩
    · rw [World.cell?_of_block (a := ⟨g', i, none⟩) hg', World.frozen?_of_block (a := ⟨g', i, none⟩) hg']; exact h5 i hi
    · rw [World.cell?_of_block (a := ⟨g', i, none⟩) hg']; exact h6 i u' hu
set_option maxHeartbeats 3200000 in
theorem local_tells (q : MsgT) (s : ByteArray) (b : Bool) (RA : Option Addr) (n rc : Nat) (rs : List RecT) (w : World) (h : Recs w RA rs) (hl : rs.length = n) (hn : n ≤ 1000) :
    TellsM Try.prog 40 #[q.v, .agg #[.int .i64 8, .string s, .bool b, .slice RA n rc]] w (q.baseT 0 false (locR q.qn q.qt rs)) := by
  unfold TellsM
  obtain ⟨id, reply, op, auth, trunc, want, avail, cd, qn, qt, A1, n1, c1, r1, A2, n2, c2, r2, A3, n3, c3, r3, z⟩ := q
  obtain ⟨i0, hi, hz0, hz1, hz2⟩ := info_parts4 rec_info
  have BA := fun w => base_any ⟨id, reply, op, auth, trunc, want, avail, cd, qn, qt, A1, n1, c1, r1, A2, n2, c2, r2, A3, n3, c3, r3, z⟩ 0 w
  unfold MsgT.base at BA
  unfold MsgT.v at *
  dsimp only at *
  generalize hmz : minZ z = mz at *
  rw [show (0 : Int) % 16 = 0 by decide] at BA
  have BA := Lib.hid BA
  have H := Lib.hid h
  have HL := Lib.hid hl
  clear h hl
  have hQ := ((Cs.new w #[.int .u16 id, .bool reply, .int .i64 op, .bool auth, .bool trunc, .bool want, .bool avail, .int .i64 cd, .string qn, .int .u16 qt, .slice A1 n1 c1, .slice A2 n2 c2, .slice A3 n3 c3, .int .i64 z] 31 [.int .u16 id, .bool reply, .int .i64 op, .bool auth, .bool trunc, .bool want, .bool avail, .int .i64 cd, .string qn, .int .u16 qt, .slice A1 n1 c1, .slice A2 n2 c2, .slice A3 n3 c3, .int .i64 z]).alloc (.cells #[.int .i64 8, .string s, .bool b, .slice RA n rc] 54)).alloc (.cells #[.int .u16 0, .bool false, .int .i64 0, .bool false, .bool false, .bool false, .bool false, .int .i64 0, .string ⟨#[]⟩, .int .u16 0, .slice none 0 0, .slice none 0 0, .slice none 0 0, .int .i64 0] 31)
  have hA := ((Cs.new (w.alloc (.cells #[.int .u16 id, .bool reply, .int .i64 op, .bool auth, .bool trunc, .bool want, .bool avail, .int .i64 cd, .string qn, .int .u16 qt, .slice A1 n1 c1, .slice A2 n2 c2, .slice A3 n3 c3, .int .i64 z] 31)) #[.int .i64 8, .string s, .bool b, .slice RA n rc] 54 [.int .i64 8, .string s, .bool b, .slice RA n rc]).at_ (w.heap.size + 1) (by simp)).alloc (.cells #[.int .u16 0, .bool false, .int .i64 0, .bool false, .bool false, .bool false, .bool false, .int .i64 0, .string ⟨#[]⟩, .int .u16 0, .slice none 0 0, .slice none 0 0, .slice none 0 0, .int .i64 0] 31)
  have hR := (Cs.new ((w.alloc (.cells #[.int .u16 id, .bool reply, .int .i64 op, .bool auth, .bool trunc, .bool want, .bool avail, .int .i64 cd, .string qn, .int .u16 qt, .slice A1 n1 c1, .slice A2 n2 c2, .slice A3 n3 c3, .int .i64 z] 31)).alloc (.cells #[.int .i64 8, .string s, .bool b, .slice RA n rc] 54)) #[.int .u16 0, .bool false, .int .i64 0, .bool false, .bool false, .bool false, .bool false, .int .i64 0, .string ⟨#[]⟩, .int .u16 0, .slice none 0 0, .slice none 0 0, .slice none 0 0, .int .i64 0] 31 [.int .u16 0, .bool false, .int .i64 0, .bool false, .bool false, .bool false, .bool false, .int .i64 0, .string ⟨#[]⟩, .int .u16 0, .slice none 0 0, .slice none 0 0, .slice none 0 0, .int .i64 0]).at_ (w.heap.size + 1 + 1) (by simp)
  have hb0 := (((Below.refl w.heap.size w).alloc (Nat.le_refl _) (.cells #[.int .u16 id, .bool reply, .int .i64 op, .bool auth, .bool trunc, .bool want, .bool avail, .int .i64 cd, .string qn, .int .u16 qt, .slice A1 n1 c1, .slice A2 n2 c2, .slice A3 n3 c3, .int .i64 z] 31)).alloc (by simp) (.cells #[.int .i64 8, .string s, .bool b, .slice RA n rc] 54)).alloc (by simp; omega) (.cells #[.int .u16 0, .bool false, .int .i64 0, .bool false, .bool false, .bool false, .bool false, .int .i64 0, .string ⟨#[]⟩, .int .u16 0, .slice none 0 0, .slice none 0 0, .slice none 0 0, .int .i64 0] 31)
  go_enter Try.func40, Try.ntmps40
  go_wp2_with fail
  refine (BA.out _).mono ?_
  rintro e w1 ⟨rfl, hb1'⟩
  have hQ1 := Lib.hid ((hQ.below hb1').alloc (.cells #[.int .u16 id, .bool true, .int .i64 op, .bool false, .bool false, .bool want, .bool true, .int .i64 (0), .string qn, .int .u16 qt, .slice none 0 0, .slice none 0 0, .slice none 0 0, .int .i64 mz] 31))
  have hA1 := (hA.below hb1').alloc (.cells #[.int .u16 id, .bool true, .int .i64 op, .bool false, .bool false, .bool want, .bool true, .int .i64 (0), .string qn, .int .u16 qt, .slice none 0 0, .slice none 0 0, .slice none 0 0, .int .i64 mz] 31)
  have hR1 := Lib.hid ((hR.below hb1').alloc (.cells #[.int .u16 id, .bool true, .int .i64 op, .bool false, .bool false, .bool want, .bool true, .int .i64 (0), .string qn, .int .u16 qt, .slice none 0 0, .slice none 0 0, .slice none 0 0, .int .i64 mz] 31))
  have hT1 := Lib.hid (Cs.new w1 #[.int .u16 id, .bool true, .int .i64 op, .bool false, .bool false, .bool want, .bool true, .int .i64 (0), .string qn, .int .u16 qt, .slice none 0 0, .slice none 0 0, .slice none 0 0, .int .i64 mz] 31 [.int .u16 id, .bool true, .int .i64 op, .bool false, .bool false, .bool want, .bool true, .int .i64 (0), .string qn, .int .u16 qt, .slice none 0 0, .slice none 0 0, .slice none 0 0, .int .i64 mz])
  have hb1 := below_trans hb0 hb0.size hb1'
  have hb1a := Lib.hid (hb1.alloc hb1.size (.cells #[.int .u16 id, .bool true, .int .i64 op, .bool false, .bool false, .bool want, .bool true, .int .i64 (0), .string qn, .int .u16 qt, .slice none 0 0, .slice none 0 0, .slice none 0 0, .int .i64 mz] 31))
  have hRl := (hR.below hb1').lt
  have a3 := hA1.get 3 _
  clear hQ hA hR hb0 hb1 hb1' BA hA1
  go_upto_region 3 with fail
  have hsz : (w1.alloc (.cells #[.int .u16 id, .bool true, .int .i64 op, .bool false, .bool false, .bool want, .bool true, .int .i64 (0), .string qn, .int .u16 qt, .slice none 0 0, .slice none 0 0, .slice none 0 0, .int .i64 mz] 31)).heap.size = w1.heap.size + 1 := by simp
  have hO1 := Lib.hid (OBM.start (sz := 4) (w1.alloc (.cells #[.int .u16 id, .bool true, .int .i64 op, .bool false, .bool false, .bool want, .bool true, .int .i64 (0), .string qn, .int .u16 qt, .slice none 0 0, .slice none 0 0, .slice none 0 0, .int .i64 mz] 31)))
  rw [hsz] at hO1
  clear a3
  generalize hW1 : w1.alloc (.cells #[.int .u16 id, .bool true, .int .i64 op, .bool false, .bool false, .bool want, .bool true, .int .i64 (0), .string qn, .int .u16 qt, .slice none 0 0, .slice none 0 0, .slice none 0 0, .int .i64 mz] 31) = W1 at *
  generalize hT : w1.heap.size = T at *
  clear hW1 hsz
  go_loopw [13] (fun i wr => ∃ (k : Nat) (v : Value), k ≤ n ∧ i = .int .i64 k ∧ Hid (OBM 4 (T + 1) wr v (locR qn qt (rs.take k)).length (flatR (locR qn qt (rs.take k))) wr) ∧ Hid (Cs wr w.heap.size [.int .u16 id, .bool reply, .int .i64 op, .bool auth, .bool trunc, .bool want, .bool avail, .int .i64 cd, .string qn, .int .u16 qt, .slice A1 n1 c1, .slice A2 n2 c2, .slice A3 n3 c3, .int .i64 z]) ∧ Hid (Cs wr (w.heap.size + 1 + 1) [.int .u16 0, .bool false, .int .i64 0, .bool false, .bool false, .bool false, .bool false, .int .i64 0, .string ⟨#[]⟩, .int .u16 0, .slice none 0 0, .slice none 0 0, .slice none 0 0, .int .i64 0]) ∧ Hid (Cs wr T [.int .u16 id, .bool true, .int .i64 op, .bool false, .bool false, .bool want, .bool true, .int .i64 (0), .string qn, .int .u16 qt, v, .slice none 0 0, .slice none 0 0, .int .i64 mz]) ∧ Hid (Below w.heap.size w wr)) (fun i _ => n - (intOf i).toNat)
  case atStart => exact ⟨0, .slice none 0 0, Nat.zero_le _, rfl, Lib.hid (by have := hO1.out; simpa [locR, flatR] using this), hQ1, hR1, hT1, hb1a⟩
  case round =>
    obtain ⟨k, v, hk, rfl, HO, HQ, HR, HT, HB⟩ := hrel
    by_cases hlt : k < n
    · have hlt' : (k : Int) < n := by omega
      obtain ⟨⟨x0, x1, x2, x3⟩, hr⟩ : ∃ r, rs[k]? = some r := ⟨_, List.getElem?_eq_getElem (by rw [HL.out]; omega)⟩
      obtain ⟨bb, off, rfl, hbb, g0, g1, g2, g3⟩ := (H.out.below HB.out) k _ hr
      dsimp only at g0 g1 g2 g3
      obtain ⟨X, c', rfl, -, -, -⟩ := HO.out.slice
      have hTl := HT.out.lt
      have hQl := HQ.out.lt
      generalize hpr : locR qn qt (rs.take k) = pr at *
      have hprl : pr.length ≤ 1000 := by rw [← hpr]; exact Nat.le_trans (locR_len _ _ _) (by rw [List.length_take]; omega)
      cases ht : (x1 == qt) with
      | true =>
        have hNX : locR qn qt (rs.take (k + 1)) = pr ++ [(qn, x1, x2, x3)] := by rw [locR_yes hr ht, hpr]
        have HNX := Lib.hid hNX
        have HR' := Lib.hid hr
        have HPL := Lib.hid hprl
        have q9 := (HQ.out.alloc (.cells #[.string x0, .int .u16 x1, .int .u32 x2, .string x3] 44)).get 9 _
        have q8 := (HQ.out.alloc (.cells #[.string x0, .int .u16 x1, .int .u32 x2, .string x3] 44)).get 8 _
        have t10 := (HT.out.alloc (.cells #[.string qn, .int .u16 x1, .int .u32 x2, .string x3] 44)).get 10 _
        have hA2 : Hid (OBM 4 (T + 1) _ (.slice X pr.length c') pr.length (flatR pr) ((wr.alloc (.cells #[.string qn, .int .u16 x1, .int .u32 x2, .string x3] 44)).alloc (.cells #[.string qn, .int .u16 x1, .int .u32 x2, .string x3] 44))) := Lib.hid ((HO.out.alloc _).alloc _)
        have hS : Hid (Src Try.prog 4 29 (.slice (some ⟨(wr.alloc (.cells #[.string qn, .int .u16 x1, .int .u32 x2, .string x3] 44)).heap.size, 0, none⟩) 1 1) 1 (recCells (qn, x1, x2, x3)) ((wr.alloc (.cells #[.string qn, .int .u16 x1, .int .u32 x2, .string x3] 44)).alloc (.cells #[.string qn, .int .u16 x1, .int .u32 x2, .string x3] 44))) := by
          refine Lib.hid (Src.ofSlice _ Try.underlying29 _ 1 1 _ rfl ?_ ?_)
          · exact news_at _ #[.string qn, .int .u16 x1, .int .u32 x2, .string x3] _
          · intro u hu
            unfold recCells at hu
            simp at hu
            rcases hu with rfl | rfl | rfl | rfl <;> rfl
        rw [show (wr.alloc (.cells #[.string qn, .int .u16 x1, .int .u32 x2, .string x3] 44)).heap.size = wr.heap.size + 1 by simp] at hS
        clear hpr hNX hr hprl
        go_wp2_with (at_builtin; go_loud (refine wpList_append_obm rfl _ _ 29 29 rfl 44 i0 _ 40 Try.underlying29 hi hz0 hz1 hz2 rfl hA2.out rfl rfl hS.out rfl (by have := HPL.out; unfold maxLen; omega) (by have := HPL.out; omega) ?_))
        intro v' w' q1 q2 q3 q4
        have hne : ∀ g, g ≤ T → some g ≠ (Value.slice X pr.length c').ownBlock := fun g hg e => by have := (HO.out.lt g e.symm).1; omega
        have hRl2 := HR.out.lt
        have hT2 := ((HT.out.alloc (.cells #[.string qn, .int .u16 x1, .int .u32 x2, .string x3] 44)).alloc (.cells #[.string qn, .int .u16 x1, .int .u32 x2, .string x3] 44)).block (q3 T (by omega) (hne T (Nat.le_refl _))) (by simpa using q2)
        have hR2 := ((HR.out.alloc (.cells #[.string qn, .int .u16 x1, .int .u32 x2, .string x3] 44)).alloc (.cells #[.string qn, .int .u16 x1, .int .u32 x2, .string x3] 44)).block (q3 _ (by omega) (hne _ (by omega))) (by simpa using q2)
        have hQ2 := ((HQ.out.alloc (.cells #[.string qn, .int .u16 x1, .int .u32 x2, .string x3] 44)).alloc (.cells #[.string qn, .int .u16 x1, .int .u32 x2, .string x3] 44)).block (q3 _ (by omega) (hne _ (by omega))) (by simpa using q2)
        have hB2 := HB.out.trans (q1.bel.mono (show w.heap.size ≤ T + 1 by omega))
        obtain ⟨X', c2, rfl, -, -, -⟩ := q1.slice
        have t10 := hT2.get 10 _
        have f10 := hT2.froz 10 (by simp)
        have HT2 := Lib.hid hT2
        have HR2 := Lib.hid hR2
        have HQ2 := Lib.hid hQ2
        have HB2 := Lib.hid hB2
        have Q1 := Lib.hid q1
        have HTw := Lib.hid (show w.heap.size + 1 + 1 < T by omega)
        clear q1 q2 q3 q4 hne hT2 hR2 hQ2 hB2 q8 q9 hA2 hS
        go_wp2_with fail
        go_round
        case rel =>
          refine ⟨k + 1, .slice X' (pr.length + 1) c2, by omega, by go_num, ?_, Lib.hid (HQ2.out.other _ _ _ (by have := HTw.out; omega)), Lib.hid (HR2.out.other _ _ _ (by have := HTw.out; omega)), ?_, Lib.hid (HB2.out.setCell (by simp; have := HTw.out; omega) _)⟩
          · rw [HNX.out, flatR_snoc, List.length_append]
            exact Lib.hid (Q1.out.setOther T 10 _ (Nat.lt_succ_self T))
          · have q := HT2.out.set' 10 (.slice X' (pr.length + 1) c2) (by simp)
            simp only [List.set_cons_succ, List.set_cons_zero] at q
            exact Lib.hid q
        case measure => simp [intOf]; omega
      | false =>
        have hNX : locR qn qt (rs.take (k + 1)) = pr := by rw [locR_no hr ht, hpr]
        have HNX := Lib.hid hNX
        have q9 := (HQ.out.alloc (.cells #[.string x0, .int .u16 x1, .int .u32 x2, .string x3] 44)).get 9 _
        clear hpr hNX hr hprl
        go_wp2_with fail
        go_round
        case rel => exact ⟨k + 1, .slice X pr.length c', by omega, by go_num, by rw [HNX.out]; exact Lib.hid (HO.out.alloc _).here, Lib.hid (HQ.out.alloc _), Lib.hid (HR.out.alloc _), Lib.hid (HT.out.alloc _), Lib.hid (HB.out.alloc HB.out.size _)⟩
        case measure => simp [intOf]; omega
    · have hlt' : ¬ (k : Int) < n := by omega
      have hkn : rs.take k = rs := List.take_of_length_le (by rw [HL.out]; omega)
      rw [hkn] at HO
      obtain ⟨X, c', rfl, -, -, -⟩ := HO.out.slice
      have hprl : (locR qn qt rs).length ≤ 1000 := Nat.le_trans (locR_len _ _ _) (by rw [HL.out]; exact hn)
      have HP := Lib.hid (HO.out.recs rfl)
      have HPL := Lib.hid hprl
      have YH := Lib.hid (show ∀ b off, X = some ⟨b, off, none⟩ → T + 1 ≤ b from fun b off e => by subst e; exact (HO.out.lt b rfl).1)
      generalize hpr : locR qn qt rs = pr at *
      have m0 := HT.out.get 0 _
      have m1 := HT.out.get 1 _
      have m2 := HT.out.get 2 _
      have m3 := HT.out.get 3 _
      have m4 := HT.out.get 4 _
      have m5 := HT.out.get 5 _
      have m6 := HT.out.get 6 _
      have m7 := HT.out.get 7 _
      have m8 := HT.out.get 8 _
      have m9 := HT.out.get 9 _
      have m10 := HT.out.get 10 _
      have m11 := HT.out.get 11 _
      have m12 := HT.out.get 12 _
      have m13 := HT.out.get 13 _
      have r0 := HR.out.get 0 _
      have r1 := HR.out.get 1 _
      have r2 := HR.out.get 2 _
      have r3 := HR.out.get 3 _
      have r4 := HR.out.get 4 _
      have r5 := HR.out.get 5 _
      have r6 := HR.out.get 6 _
      have r7 := HR.out.get 7 _
      have r8 := HR.out.get 8 _
      have r9 := HR.out.get 9 _
      have r10 := HR.out.get 10 _
      have r11 := HR.out.get 11 _
      have r12 := HR.out.get 12 _
      have r13 := HR.out.get 13 _
      have f0 := HR.out.froz 0 (by simp)
      have f1 := HR.out.froz 1 (by simp)
      have f2 := HR.out.froz 2 (by simp)
      have f3 := HR.out.froz 3 (by simp)
      have f4 := HR.out.froz 4 (by simp)
      have f5 := HR.out.froz 5 (by simp)
      have f6 := HR.out.froz 6 (by simp)
      have f7 := HR.out.froz 7 (by simp)
      have f8 := HR.out.froz 8 (by simp)
      have f9 := HR.out.froz 9 (by simp)
      have f10 := HR.out.froz 10 (by simp)
      have f11 := HR.out.froz 11 (by simp)
      have f12 := HR.out.froz 12 (by simp)
      have f13 := HR.out.froz 13 (by simp)
      have hTl := HT.out.lt
      have HTw := Lib.hid (show w.heap.size + 1 + 1 < T by omega)
      clear hprl hkn HO
      go_wp2_with fail
      refine bodyPost_ret (v := .agg #[.int .u16 id, .bool true, .int .i64 op, .bool false, .bool false, .bool want, .bool true, .int .i64 (0), .string qn, .int .u16 qt, .slice X pr.length c', .slice none 0 0, .slice none 0 0, .int .i64 mz]) (by simp [results, Try.results40, go_sem, r0, r1, r2, r3, r4, r5, r6, r7, r8, r9, r10, r11, r12, r13]) rfl ⟨⟨id, true, op, false, false, want, true, 0, qn, qt, X, pr.length, c', pr, none, 0, 0, [], none, 0, 0, [], mz⟩, rfl, ⟨rfl, rfl, rfl, rfl, rfl, rfl, rfl, rfl, rfl, rfl, hmz.symm, rfl, rfl, rfl⟩, ⟨?_, Recs.nil _ _, Recs.nil _ _, rfl, rfl, rfl, by show pr.length ≤ maxLen; have := HPL.out; unfold maxLen; omega, Nat.zero_le _, Nat.zero_le _⟩, ⟨fun b off e => by have := YH.out b off e; have := HTw.out; omega, OwnA.none _, OwnA.none _⟩, ?_⟩
      · iterate 14 (refine Recs.other ?_ _ _ _ (fun b off e => by have := YH.out b off e; have := HTw.out; omega))
        exact HP.out
      · iterate 14 (refine Below.setCell ?_ (by simp; omega) _)
        exact HB.out
end Go.Proofs.Ytbjbppnjheaecaa
