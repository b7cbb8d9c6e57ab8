/- pending.Free in general. -/
import Derived.Test.YtpopnlbpeboiiaaDoorFreeA
import Derived.Test.YtpopnlbpeboiiaaDoorOb
import Derived.Deep.MidRow
import Derived.Outline
namespace Go.Proofs.YtpopnlbpeboiiaaDoor
open Go.RowKit
set_option linter.unusedVariables false
set_option linter.unusedSimpArgs false
set_option maxRecDepth 20000
set_option maxHeartbeats 6400000 in
theorem free_any (A : Option Addr) (n c : Nat) (es : List EntT) (id : Nat) (hid : id < 65536) (w : World) (h : Ents w A es) (hl : es.length = n) (hn : n ≤ 1000000000000) :
    Calls Tryd.prog 12 #[.slice A n c, .int .u16 (id : Nat)] w fun e w' => ∃ r, e = .returned (.int .u16 r) ∧ FreeR (idsE es) id r ∧ Below w.heap.size w w' := by
  have H := Lib.hid h
  have HL := Lib.hid hl
  have hmm := @run_makeMap Tryd.prog
  clear h hl
  go_enter Tryd.func12, Tryd.ntmps12
  go_upto_region 3 with fail
  have hI0 := IM.new .u16 (.agg #[]) w
  have hB0 := (Below.refl w.heap.size w).alloc (Nat.le_refl _) (.map #[] 0)
  generalize hW0 : w.alloc (.map #[] 0) = W0 at *
  generalize hMB : w.heap.size = MB at *
  clear hmm hW0
  go_loopw [13] (fun i wr => ∃ (k : Nat) (ks : List Int), k ≤ n ∧ i = .int .i64 k ∧ Hid (IM .u16 (.agg #[]) wr MB ks) ∧ Hid (∀ x, ks.contains x = (idsE (es.take k)).contains x) ∧ Hid (Below MB w wr)) (fun i _ => n - (intOf i).toNat)
  case atStart => exact ⟨0, [], Nat.zero_le _, rfl, Lib.hid hI0, Lib.hid (by intro x; simp [idsE]), Lib.hid hB0⟩
  case round =>
    obtain ⟨k, ks, hk, rfl, HI, HX, HB⟩ := hrel
    by_cases hlt : k < n
    · have hlt' : (k : Int) < n := by omega
      obtain ⟨e, he⟩ : ∃ r, es[k]? = some r := ⟨_, List.getElem?_eq_getElem (by rw [HL.out]; omega)⟩
      obtain ⟨bb, off, rfl, hbb, hc⟩ := (H.out.below (hMB ▸ HB.out)) k _ he
      have hnx : ∀ x, (if ks.contains e.1 then ks else ks ++ [e.1]).contains x = (idsE (es.take (k + 1))).contains x := by
        intro x
        have e1 : idsE (es.take (k + 1)) = idsE (es.take k) ++ [e.1] := by unfold idsE; rw [List.take_add_one, he]; simp
        rw [e1]
        have hx := HX.out x
        by_cases hce : ks.contains e.1 = true
        · rw [if_pos hce]
          have h2 := HX.out e.1
          rw [hce] at h2
          rw [hx]
          by_cases hxe : x = e.1
          · subst hxe; rw [← h2]; simp
          · simp [hxe]
        · rw [if_neg hce]
          simp only [List.contains_eq_mem, List.mem_append, decide_eq_true_eq] at hx ⊢
          simp only [List.mem_append, List.mem_singleton, decide_eq_decide] at hx ⊢
          rw [hx]
      obtain ⟨e0, e1, e2, e3, e4, e5⟩ := e
      have HN := Lib.hid hnx
      clear hnx he
      have hrg : wr.rangeAt bb (off + k * 19) [.int .u16 e0, .int .u16 0, .bool false, .int .i64 0, .bool false, .bool false, .bool false, .bool false, .int .i64 0, .string e1, .int .u16 e2, .slice none 0 0, .slice none 0 0, .slice none 0 0, .int .i64 0, .string e3, .int .i64 e4, .bool false, .int .i64 e5] := fun j v hv => hc j v hv
      have HRG := Lib.hid hrg
      have HRG := Lib.hid hrg
      have hZ := Cs.new wr #[.int .u16 0, .int .u16 0, .bool false, .int .i64 0, .bool false, .bool false, .bool false, .bool false, .int .i64 0, .string ⟨#[]⟩, .int .u16 0, .slice none 0 0, .slice none 0 0, .slice none 0 0, .int .i64 0, .string ⟨#[]⟩, .int .i64 0, .bool false, .int .i64 0] 41 [.int .u16 0, .int .u16 0, .bool false, .int .i64 0, .bool false, .bool false, .bool false, .bool false, .int .i64 0, .string ⟨#[]⟩, .int .u16 0, .slice none 0 0, .slice none 0 0, .slice none 0 0, .int .i64 0, .string ⟨#[]⟩, .int .i64 0, .bool false, .int .i64 0]
      have hTh : (wr.alloc (.cells #[.int .u16 0, .int .u16 0, .bool false, .int .i64 0, .bool false, .bool false, .bool false, .bool false, .int .i64 0, .string ⟨#[]⟩, .int .u16 0, .slice none 0 0, .slice none 0 0, .slice none 0 0, .int .i64 0, .string ⟨#[]⟩, .int .i64 0, .bool false, .int .i64 0] 41)).there wr.heap.size 0 19 := fun j hj => by
        rw [Nat.zero_add]
        exact ⟨by rw [(hZ.2 j (by simpa using hj)).1]; rfl, (hZ.2 j (by simpa using hj)).2⟩
      have HTH := Lib.hid hTh
      have hB4 := below_setCells' (B := MB) (g := wr.heap.size) (by have := HB.out.size; omega) [.int .u16 e0, .int .u16 0, .bool false, .int .i64 0, .bool false, .bool false, .bool false, .bool false, .int .i64 0, .string e1, .int .u16 e2, .slice none 0 0, .slice none 0 0, .slice none 0 0, .int .i64 0, .string e3, .int .i64 e4, .bool false, .int .i64 e5] 0 (HB.out.alloc (by have := HB.out.size; omega) (.cells #[.int .u16 0, .int .u16 0, .bool false, .int .i64 0, .bool false, .bool false, .bool false, .bool false, .int .i64 0, .string ⟨#[]⟩, .int .u16 0, .slice none 0 0, .slice none 0 0, .slice none 0 0, .int .i64 0, .string ⟨#[]⟩, .int .i64 0, .bool false, .int .i64 0] 41))
      have hI4 := HI.out.below (below_setCells' (Nat.le_refl _) [.int .u16 e0, .int .u16 0, .bool false, .int .i64 0, .bool false, .bool false, .bool false, .bool false, .int .i64 0, .string e1, .int .u16 e2, .slice none 0 0, .slice none 0 0, .slice none 0 0, .int .i64 0, .string e3, .int .i64 e4, .bool false, .int .i64 e5] 0 ((Below.refl wr.heap.size wr).alloc (Nat.le_refl _) (.cells #[.int .u16 0, .int .u16 0, .bool false, .int .i64 0, .bool false, .bool false, .bool false, .bool false, .int .i64 0, .string ⟨#[]⟩, .int .u16 0, .slice none 0 0, .slice none 0 0, .slice none 0 0, .int .i64 0, .string ⟨#[]⟩, .int .i64 0, .bool false, .int .i64 0] 41)))
      have r0 : ((wr.alloc (.cells #[.int .u16 0, .int .u16 0, .bool false, .int .i64 0, .bool false, .bool false, .bool false, .bool false, .int .i64 0, .string ⟨#[]⟩, .int .u16 0, .slice none 0 0, .slice none 0 0, .slice none 0 0, .int .i64 0, .string ⟨#[]⟩, .int .i64 0, .bool false, .int .i64 0] 41)).setCells wr.heap.size 0 [.int .u16 e0, .int .u16 0, .bool false, .int .i64 0, .bool false, .bool false, .bool false, .bool false, .int .i64 0, .string e1, .int .u16 e2, .slice none 0 0, .slice none 0 0, .slice none 0 0, .int .i64 0, .string e3, .int .i64 e4, .bool false, .int .i64 e5]).cell? ⟨wr.heap.size, 0, none⟩ = some (.int .u16 e0) := by
        have := World.cell?_setCells_in wr.heap.size [.int .u16 e0, .int .u16 0, .bool false, .int .i64 0, .bool false, .bool false, .bool false, .bool false, .int .i64 0, .string e1, .int .u16 e2, .slice none 0 0, .slice none 0 0, .slice none 0 0, .int .i64 0, .string e3, .int .i64 e4, .bool false, .int .i64 e5] 0 (wr.alloc (.cells #[.int .u16 0, .int .u16 0, .bool false, .int .i64 0, .bool false, .bool false, .bool false, .bool false, .int .i64 0, .string ⟨#[]⟩, .int .u16 0, .slice none 0 0, .slice none 0 0, .slice none 0 0, .int .i64 0, .string ⟨#[]⟩, .int .i64 0, .bool false, .int .i64 0] 41)) (fun j hj => (hTh j (by simpa using hj)).1) 0 (by simp)
        simpa using this
      have HI5 := Lib.hid hI4
      have HB5 := Lib.hid hB4
      have HR0 := Lib.hid r0
      clear hc hrg hZ hTh hB4 hI4 r0
      go_upto_region 5 with (first
        | refine wpList_load_mid rfl 41 _ rfl bb (off + k * 19) rfl _ _ HRG.out Tryd.underlying41 rfl (by kernel_rfl) ?_
        | refine wpList_store_mid rfl 41 _ _ rfl wr.heap.size 0 #[.int .u16 e0, .int .u16 0, .bool false, .int .i64 0, .bool false, .bool false, .bool false, .bool false, .int .i64 0, .string e1, .int .u16 e2, .slice none 0 0, .slice none 0 0, .slice none 0 0, .int .i64 0, .string e3, .int .i64 e4, .bool false, .int .i64 e5] rfl rfl HTH.out (by kernel_rfl) (by simp [Value.oneCell']) ?_)
      have r0 := HR0.out
      have hI5 := HI5.out
      have hB5 := HB5.out
      generalize ((wr.alloc (.cells #[.int .u16 0, .int .u16 0, .bool false, .int .i64 0, .bool false, .bool false, .bool false, .bool false, .int .i64 0, .string ⟨#[]⟩, .int .u16 0, .slice none 0 0, .slice none 0 0, .slice none 0 0, .int .i64 0, .string ⟨#[]⟩, .int .i64 0, .bool false, .int .i64 0] 41)).setCells wr.heap.size 0 [.int .u16 e0, .int .u16 0, .bool false, .int .i64 0, .bool false, .bool false, .bool false, .bool false, .int .i64 0, .string e1, .int .u16 e2, .slice none 0 0, .slice none 0 0, .slice none 0 0, .int .i64 0, .string e3, .int .i64 e4, .bool false, .int .i64 e5]) = W5 at *
      obtain ⟨w5, hrun, hI6, hg6⟩ := hI5.insert (P := Tryd.prog) (t := 64) (k := 30) (e := 65) (by kernel_rfl) (by kernel_rfl) e0
      have HI6 := Lib.hid hI6
      have HB6 := Lib.hid (hB5.grown hg6 (by have := hB5.size; omega) (fun k hk => by injection hk with hk; omega))
      clear hI6 hI5 hB5 hg6 HI5 HB5 HR0 HRG HTH
      go_wp2_with fail
      go_round
      case rel => exact ⟨k + 1, _, by omega, by go_num, HI6, HN, HB6⟩
      case measure => simp [intOf]; omega
    · have hlt' : ¬ (k : Int) < n := by omega
      have hkn : es.take k = es := List.take_of_length_le (by rw [HL.out]; omega)
      rw [hkn] at HX
      have hidm : id % 65536 = id := Nat.mod_eq_of_lt hid
      clear hkn hk
      go_wp2_with fail
      go_loopw [1, 22] (fun v i wx => ∃ j : Nat, j ≤ 65536 ∧ i = .int .i64 j ∧ v = .int .u16 ((id + j) % 65536 : Nat) ∧ Hid (∀ i, i < j → (idsE es).contains (((id + i) % 65536 : Nat) : Int) = true) ∧ Hid (IM .u16 (.agg #[]) wx MB ks) ∧ Hid (Below MB w wx)) (fun _ i _ => 65536 - (intOf i).toNat)
      case atStart => exact ⟨0, Nat.zero_le _, rfl, by rw [Nat.add_zero, hidm], Lib.hid (fun i hi => by omega), HI, HB⟩
      case round =>
        obtain ⟨j, hj, rfl, rfl, HF, HI2, HB2⟩ := hrel
        by_cases hlt2 : j < 65536
        · have hlt3 : (j : Int) < 65536 := by omega
          have hm : (id + j) % 65536 < 65536 := Nat.mod_lt _ (by omega)
          have hnx : IntKind.u16.wrap (((id + j) % 65536 : Nat) + 1 : Int) = (((id + (j + 1)) % 65536 : Nat) : Int) := by rw [IntKind.wrap_u16]; omega
          have hx := HX.out (((id + j) % 65536 : Nat) : Int)
          have hlk := HI2.out.lookup (P := Tryd.prog) (t := 64) (k := 30) (e := 65) (by kernel_rfl) (by kernel_rfl) (z := .agg #[]) (by kernel_rfl) (((id + j) % 65536 : Nat) : Int)
          rw [ite_self, hx] at hlk
          obtain ⟨x, hxe⟩ : ∃ x, (id + j) % 65536 = x := ⟨_, rfl⟩
          have HXE := Lib.hid hxe
          rw [hxe] at hlk hnx hm ⊢
          cases hc : (idsE es).contains (x : Int) with
          | true =>
            rw [hc] at hlk
            have HC := Lib.hid hc
            clear hc hx
            go_wp2_with fail
            go_round
            case rel =>
              refine ⟨j + 1, by omega, by go_num, by first | rfl | (congr 1; omega) | (simp; done), Lib.hid (fun i hi => ?_), Lib.hid (HI2.out.below ((Below.refl _ _).alloc (Nat.le_refl _) _)), Lib.hid (HB2.out.alloc (by have := HB2.out.size; omega) _)⟩
              by_cases hij : i < j
              · exact HF.out i hij
              · obtain rfl : i = j := by omega
                rw [HXE.out]; exact HC.out
            case measure => simp [intOf]; omega
          | false =>
            rw [hc] at hlk
            have HC := Lib.hid hc
            clear hc hx
            go_wp2_with fail
            go_ret
            exact ⟨_, rfl, .inl ⟨j, by omega, HF.out, by rw [HXE.out]; exact HC.out, by rw [HXE.out]⟩, by rw [hMB]; exact HB2.out.alloc (by have := HB2.out.size; omega) _⟩
        · obtain rfl : j = 65536 := by omega
          go_wp2_with fail
          go_ret
          exact ⟨_, rfl, .inr ⟨rfl, fun i hi => HF.out i hi⟩, by rw [hMB]; exact HB2.out⟩
end Go.Proofs.YtpopnlbpeboiiaaDoor
