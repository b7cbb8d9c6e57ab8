/- Texts that walks stand on, one behind the other. -/
import Derived.Test.YtpbbnpglcadimaaDoorMgSD
import Derived.Test.YtpbbnpglcadimaaDoorOb
import Derived.Test.YtpbbnpglcadimaaDoorProg
import Derived.WalkKit
import Derived.LaidEql
import Derived.Stop.Asserts
import Derived.RowKitTokens
import Derived.Test.YtpbbnpglcadimaaDoorReg2
import Derived.Test.YtpbbnpglcadimaaDoorMgSA
import Derived.Test.YtpbbnpglcadimaaDoorMgSC
import Derived.Test.YtpbbnpglcadimaaDoorMgSB
namespace Go.Proofs.YtpbbnpglcadimaaDoor
open Go.RowKit
set_option linter.unusedVariables false
set_option linter.unusedSimpArgs false
set_option maxRecDepth 20000
/-- All go, one behind the other; all come. -/
def delAll : List RecT → List RecT → Option (List RecT)
  | [], z => some z
  | r :: rs, z => if hasB z r = true then delAll rs (lessR z r) else none
def insAll : List RecT → List RecT → Option (List RecT)
  | [], z => some z
  | r :: rs, z => if hasB z r = true then none else insAll rs (insR z r)
/-- A zone behind a delta; or why not. -/
def apdR (z : List RecT) (fr tt : RecT) (gone new : List RecT) : Nat ⊕ List RecT :=
  match firstS z with
  | none => .inl 5
  | some s => if eqB s fr = true then (match delAll (fr :: gone) z with
    | none => .inl 6
    | some z1 => (match insAll (new ++ [tt]) z1 with
      | none => .inl 7
      | some z2 => .inr z2)) else .inl 5
theorem lessR_rising {z : List RecT} {r : RecT} (h : Rising z) : Rising (lessR z r) := List.Pairwise.sublist List.filter_sublist h
theorem delAll_rising : ∀ (l z z' : List RecT), Rising z → delAll l z = some z' → Rising z' ∧ z'.length ≤ z.length
  | [], z, z', h, e => by injection e with e; subst e; exact ⟨h, Nat.le_refl _⟩
  | r :: l, z, z', h, e => by
    unfold delAll at e
    split at e
    · have := delAll_rising l _ z' (lessR_rising (r := r) h) e
      have h2 : (lessR z r).length ≤ z.length := List.length_filter_le _ _
      exact ⟨this.1, by omega⟩
    · cases e
/-- A zone lies at a slice. -/
def ZoneAt (w : World) (v : Value) (z : List RecT) : Prop := ∃ A c, v = .slice A z.length c ∧ RowROk w (A, z.length, c, z) ∧ (A = none → z.length = 0 ∧ c = 0) ∧ z.length ≤ c ∧ c ≤ maxLen
theorem ZoneAt.below {w w' : World} {v : Value} {z : List RecT} (h : ZoneAt w v z) (hb : Below w.heap.size w w') : ZoneAt w' v z := by
  obtain ⟨A, c, e, h1, h2⟩ := h
  exact ⟨A, c, e, h1.below hb, h2⟩
theorem OBM.zone {B : Nat} {W w : World} {v : Value} {z : List RecT} (h : OBM 4 B W v z.length (flatR z) w) : ZoneAt w v z := by
  obtain ⟨A, c, rfl, h1, h2, h3⟩ := h.slice
  exact ⟨A, c, rfl, ⟨h.sl, fun e => (h3 e).1, rfl⟩, h3, h1, h2⟩
theorem ZoneAt.recs {w : World} {A : Option Addr} {n c : Nat} {z : List RecT} (h : ZoneAt w (.slice A n c) z) : Recs w A z ∧ z.length = n := by
  obtain ⟨A', c', e, h1, h2⟩ := h
  injection e with e1 e2 e3
  subst e1 e3
  exact ⟨h1.sl.recs (Nat.le_refl _) rfl, e2.symm⟩
/-- Delete, Insert of a zone. -/
theorem delete_zone {w : World} {v : Value} {z : List RecT} (h : ZoneAt w v z) (r : RecT) (hn : z.length ≤ 100000) (hr : Rising z) :
    Calls Tryd.prog 53 #[v, recV r] w fun e w' => (hasB z r = false ∧ e = .returned (.tuple #[.slice none 0 0, errV 6]) ∧ Below w.heap.size w w') ∨ (hasB z r = true ∧ ∃ v', e = .returned (.tuple #[v', .nilIface]) ∧ OBM 4 w.heap.size w v' (lessR z r).length (flatR (lessR z r)) w') := by
  obtain ⟨A, c, rfl, h1, h2, h3, h4⟩ := h
  cases hq : hasB z r with
  | false =>
    exact (delete_none A z.length c z r w (h1.sl.recs (Nat.le_refl _) rfl) rfl (by unfold maxLen; omega) (hasB_false.1 hq)).mono fun e w' ⟨a, b⟩ => .inl ⟨rfl, a, b⟩
  | true =>
    exact (delete_some A z.length c z r w h1 h3 hn ((hasB_iff _ _).1 hq) hr).mono fun e w' ⟨v', a, b⟩ => .inr ⟨rfl, v', a, b⟩
theorem insert_zone {w : World} {v : Value} {z : List RecT} (h : ZoneAt w v z) (r : RecT) (hn : z.length ≤ 100000) :
    Calls Tryd.prog 54 #[v, recV r] w fun e w' => (hasB z r = true ∧ e = .returned (.tuple #[.slice none 0 0, errV 7]) ∧ Below w.heap.size w w') ∨ (hasB z r = false ∧ ∃ v', e = .returned (.tuple #[v', .nilIface]) ∧ OBM 4 w.heap.size w v' (insR z r).length (flatR (insR z r)) w') := by
  obtain ⟨A, c, rfl, h1, h2, h3, h4⟩ := h
  cases hq : hasB z r with
  | true =>
    exact (insert_old A z.length c z r w (h1.sl.recs (Nat.le_refl _) rfl) rfl (by unfold maxLen; omega) ((hasB_iff _ _).1 hq)).mono fun e w' ⟨a, b⟩ => .inl ⟨rfl, a, b⟩
  | false =>
    refine (insert_new A z.length c z r w h1 h2 h3 h4 hn (hasB_false.1 hq)).mono fun e w' ⟨v', a, b⟩ => .inr ⟨rfl, v', a, ?_⟩
    rw [insR_len]; exact b
/-- What Delta leaves. -/
def ApdA (x : Nat ⊕ List RecT) (w : World) (e : Ending) (w' : World) : Prop :=
  (∃ er : Nat, x = .inl er ∧ e = .returned (.tuple #[.slice none 0 0, errV (er : Int)]) ∧ Below w.heap.size w w') ∨ (∃ z v, x = .inr z ∧ e = .returned (.tuple #[v, .nilIface]) ∧ OBM 4 w.heap.size w v z.length (flatR z) w')
/-- A delta's cells. -/
def dltCells (fr tt : RecT) (vg vn : Value) : List Value := recCells fr ++ recCells tt ++ [vg, vn]
def dltV (fr tt : RecT) (vg vn : Value) : Value := .agg (dltCells fr tt vg vn).toArray
theorem rows_two {w : World} {g : Nat} {a b : RowR} (hC : Cs w g [rowRV a, rowRV b]) : Sl w w.heap.size 1 (some ⟨g, 0, none⟩) 2 ([a, b].map rowRV) := hC.sl
/-- In the midst of what goes: behind k of the list L. -/
structure DelS (w : World) (L z : List RecT) (k : Nat) (v : Value) (zk : List RecT) (wr : World) : Prop where
  zone : ZoneAt wr v zk
  ris : Rising zk
  len : zk.length ≤ z.length
  rest : delAll (L.drop k) zk = delAll L z
  bel : Below w.heap.size w wr
/-- In the midst of what comes. -/
structure InsS (w : World) (L z : List RecT) (k : Nat) (v : Value) (zk : List RecT) (wr : World) : Prop where
  zone : ZoneAt wr v zk
  len : zk.length ≤ z.length + k
  rest : insAll (L.drop k) zk = insAll L z
  bel : Below w.heap.size w wr
  own : 0 < k → OBM 4 w.heap.size w v zk.length (flatR zk) wr
theorem delAll_cons (r : RecT) (rs z : List RecT) : delAll (r :: rs) z = if hasB z r = true then delAll rs (lessR z r) else none := rfl
theorem insAll_cons (r : RecT) (rs z : List RecT) : insAll (r :: rs) z = if hasB z r = true then none else insAll rs (insR z r) := rfl
theorem drop_at {L : List RecT} {k : Nat} {r : RecT} (h : L[k]? = some r) : L.drop k = r :: L.drop (k + 1) := by
  obtain ⟨hk, e⟩ := List.getElem?_eq_some_iff.1 h
  rw [List.drop_eq_getElem_cons hk, e]
theorem concat_two {w : World} {g1 g2 : Nat} {r : RecT} {A : Option Addr} {n c : Nat} {l : List RecT} (h1 : Cs w g1 (recCells r)) (hl : RowROk w (A, n, c, l)) (hn : n ≤ 20000) (h2 : Cs w g2 [.slice (some ⟨g1, 0, none⟩) 1 1, .slice A n c]) :
    Calls Tryd.prog 52 #[.slice (some ⟨g2, 0, none⟩) 2 2] w fun e w' => ∃ v, e = .returned v ∧ OBM 4 w.heap.size w v (r :: l).length (flatR (r :: l)) w' := by
  have h := concatR_any (some ⟨g2, 0, none⟩) 2 2 [(some ⟨g1, 0, none⟩, 1, 1, [r]), (A, n, c, l)] w (by exact h2.sl) (by decide) (by
    intro x hx
    simp only [List.mem_cons, List.not_mem_nil, or_false] at hx
    rcases hx with rfl | rfl
    · exact RowROk.one h1
    · exact hl) (by have := hl.len; simp [allR]; simp at this; omega)
  have e : allR [((some ⟨g1, 0, none⟩ : Option Addr), 1, 1, [r]), (A, n, c, l)] = r :: l := by simp [allR]
  rw [e] at h
  exact h
theorem concat_last {w : World} {g1 g2 : Nat} {r : RecT} {A : Option Addr} {n c : Nat} {l : List RecT} (h1 : Cs w g1 (recCells r)) (hl : RowROk w (A, n, c, l)) (hn : n ≤ 20000) (h2 : Cs w g2 [.slice A n c, .slice (some ⟨g1, 0, none⟩) 1 1]) :
    Calls Tryd.prog 52 #[.slice (some ⟨g2, 0, none⟩) 2 2] w fun e w' => ∃ v, e = .returned v ∧ OBM 4 w.heap.size w v (l ++ [r]).length (flatR (l ++ [r])) w' := by
  have h := concatR_any (some ⟨g2, 0, none⟩) 2 2 [(A, n, c, l), (some ⟨g1, 0, none⟩, 1, 1, [r])] w (by exact h2.sl) (by decide) (by
    intro x hx
    simp only [List.mem_cons, List.not_mem_nil, or_false] at hx
    rcases hx with rfl | rfl
    · exact hl
    · exact RowROk.one h1) (by have := hl.len; simp [allR]; simp at this; omega)
  have e : allR [(A, n, c, l), ((some ⟨g1, 0, none⟩ : Option Addr), 1, 1, [r])] = l ++ [r] := by simp [allR]
  rw [e] at h
  exact h
set_option maxHeartbeats 6400000 in
theorem apd_any (V : Value) (z : List RecT) (fr tt : RecT) (Ag An : Option Addr) (ng cg nn cn : Nat) (gone new : List RecT) (w : World) (hZ : ZoneAt w V z) (hzn : z.length ≤ 10000) (hri : Rising z)
    (hG : RowROk w (Ag, ng, cg, gone)) (hGn : ng ≤ 10000) (hN : RowROk w (An, nn, cn, new)) (hNn : nn ≤ 10000) :
    Calls Tryd.prog 29 #[V, dltV fr tt (.slice Ag ng cg) (.slice An nn cn)] w (ApdA (apdR z fr tt gone new) w) := by
  obtain ⟨AR, hAR⟩ : ∃ R, R = ApdA (apdR z fr tt gone new) w := ⟨_, rfl⟩
  rw [← hAR]
  have HFAIL : Hid (∀ er : Nat, apdR z fr tt gone new = .inl er → ∀ w', Below w.heap.size w w' → AR (.returned (.tuple #[.slice none 0 0, errV (er : Int)])) w') := Lib.hid (fun er h w' hb => by rw [hAR]; exact .inl ⟨er, h, rfl, hb⟩)
  have HOK : Hid (∀ z' v w', apdR z fr tt gone new = .inr z' → OBM 4 w.heap.size w v z'.length (flatR z') w' → AR (.returned (.tuple #[v, .nilIface])) w') := Lib.hid (fun z' v w' h ho => by rw [hAR]; exact .inr ⟨z', v, h, rfl, ho⟩)
  have HZ := Lib.hid hZ
  obtain ⟨AZ, cz, rfl, hz1, hz2, hz3, hz4⟩ := hZ
  have SOA := Lib.hid (fun wx hb => soaz_any AZ z.length cz z wx ((hz1.sl.recs (Nat.le_refl _) rfl).below hb) rfl (by unfold maxLen; omega))
  obtain ⟨n, hn⟩ : ∃ n, n = z.length := ⟨_, rfl⟩
  rw [← hn] at HZ SOA
  rw [← hn]
  have HNZ := Lib.hid hn
  have HZN := Lib.hid hzn
  have HRI := Lib.hid hri
  have HG := Lib.hid hG
  have HN := Lib.hid hN
  have HGN := Lib.hid hGn
  have HNN := Lib.hid hNn
  have HDR : Hid (apdR z fr tt gone new = match firstS z with
    | none => .inl 5
    | some s => if eqB s fr = true then (match delAll (fr :: gone) z with
      | none => .inl 6
      | some z1 => (match insAll (new ++ [tt]) z1 with
        | none => .inl 7
        | some z2 => .inr z2)) else .inl 5) := Lib.hid rfl
  unfold dltV dltCells recCells
  obtain ⟨W, hW⟩ : ∃ W, W = w.alloc (.cells #[.string fr.1, .int .u16 fr.2.1, .int .u32 fr.2.2.1, .string fr.2.2.2, .string tt.1, .int .u16 tt.2.1, .int .u32 tt.2.2.1, .string tt.2.2.2, .slice Ag ng cg, .slice An nn cn] 43) := ⟨_, rfl⟩
  obtain ⟨B, hB⟩ : ∃ B, B = w.heap.size := ⟨_, rfl⟩
  have HC : Hid (Cs W B [.string fr.1, .int .u16 fr.2.1, .int .u32 fr.2.2.1, .string fr.2.2.2, .string tt.1, .int .u16 tt.2.1, .int .u32 tt.2.2.1, .string tt.2.2.2, .slice Ag ng cg, .slice An nn cn]) := Lib.hid (by rw [hW, hB]; exact Cs.new w _ _ _)
  have HBW : Hid (Below w.heap.size w W) := Lib.hid (by rw [hW]; exact (Below.refl _ _).alloc (Nat.le_refl _) _)
  have HW := Lib.hid hW
  have HBB := Lib.hid hB
  clear hAR hz1 hz2 hz3 hz4 hzn hri hG hN hGn hNn hW hB hn
  go_enter Tryd.func29, Tryd.ntmps29
  go_wp2_with fail
  rw [← HW.out, ← HBB.out]
  refine (SOA.out W HBW.out).mono ?_
  rintro e w1 ⟨rfl, hb1⟩
  have HC1 := Lib.hid (HC.out.below hb1)
  have HB1 := Lib.hid (below_trans HBW.out HBW.out.size hb1)
  have c0 := HC1.out.get 0 _
  have c1 := HC1.out.get 1 _
  have c2 := HC1.out.get 2 _
  have c3 := HC1.out.get 3 _
  have hlB := HC1.out.lt
  clear hb1 SOA HC HBW HW
  cases hs : firstS z with
  | none =>
    have hd := HDR.out
    rw [hs] at hd
    have HD := Lib.hid hd
    clear hs hd
    unfold recV zeroR
    go_wp2_with fail
    exact HFAIL.out 5 HD.out _ (HB1.out.alloc HB1.out.size _)
  | some s =>
    have hd := HDR.out
    rw [hs] at hd
    simp only at hd
    obtain ⟨q, hq⟩ : ∃ q, eqB s fr = q := ⟨_, rfl⟩
    have hne : ∀ w, (binOp .neq 41 (recV s) (recV fr)).run Tryd.prog w = .ok (.bool (!q)) w := fun w => by rw [← hq]; exact rec_neq s fr w
    rw [hq] at hd
    unfold recV at hne
    have HD := Lib.hid hd
    clear hs hd hq
    simp only [Option.getD_some, Option.isSome_some]
    unfold recV
    cases q with
    | false =>
      have hd := HD.out
      rw [if_neg (by decide)] at hd
      have HD := Lib.hid hd
      clear hd
      go_wp2_with fail
      exact HFAIL.out 5 HD.out _ (HB1.out.alloc HB1.out.size _)
    | true =>
      have hd := HD.out
      rw [if_pos rfl] at hd
      have HD := Lib.hid hd
      clear hd
      have HB2 := Lib.hid (HB1.out.alloc HB1.out.size (.cells #[.string s.1, .int .u16 s.2.1, .int .u32 s.2.2.1, .string s.2.2.2] 41))
      have HC2 := Lib.hid (HC1.out.alloc (.cells #[.string s.1, .int .u16 s.2.1, .int .u32 s.2.2.1, .string s.2.2.2] 41))
      go_upto_region 5 with fail
      generalize (w1.alloc (.cells #[.string s.1, .int .u16 s.2.1, .int .u32 s.2.2.1, .string s.2.2.2] 41)) = w2 at *
      have d0 := HC2.out.get 0 _
      have d1 := HC2.out.get 1 _
      have d2 := HC2.out.get 2 _
      have d3 := HC2.out.get 3 _
      have d8 := HC2.out.get 8 _
      have hlB2 := HC2.out.lt
      obtain ⟨wc, hwc⟩ : ∃ wc, wc = ((w2.alloc (.cells #[.string fr.1, .int .u16 fr.2.1, .int .u32 fr.2.2.1, .string fr.2.2.2] 41)).alloc (.cells #[.slice (some ⟨w2.heap.size, 0, none⟩) 1 1, .slice Ag ng cg] 27)) := ⟨_, rfl⟩
      have HBC : Hid (Below w2.heap.size w2 wc) := Lib.hid (by rw [hwc]; exact ((Below.refl w2.heap.size w2).alloc (Nat.le_refl _) _).alloc (by simp) _)
      have CT : Hid (Calls Tryd.prog 52 #[.slice (some ⟨w2.heap.size + 1, 0, none⟩) 2 2] wc fun e w' => ∃ v, e = .returned v ∧ OBM 4 wc.heap.size wc v (fr :: gone).length (flatR (fr :: gone)) w') := Lib.hid (by
        have h1 : Cs wc w2.heap.size (recCells fr) := by
          rw [hwc]; exact (Cs.new w2 #[.string fr.1, .int .u16 fr.2.1, .int .u32 fr.2.2.1, .string fr.2.2.2] 41 (recCells fr)).alloc _
        have h2 := Cs.new (w2.alloc (.cells #[.string fr.1, .int .u16 fr.2.1, .int .u32 fr.2.2.1, .string fr.2.2.2] 41)) #[.slice (some ⟨w2.heap.size, 0, none⟩) 1 1, .slice Ag ng cg] 27 [.slice (some ⟨w2.heap.size, 0, none⟩) 1 1, .slice Ag ng cg]
        rw [← hwc] at h2
        exact concat_two h1 (HG.out.below (below_trans HB2.out HB2.out.size HBC.out)) (by have := HGN.out; omega) (h2.at_ _ (by simp)))
      have HWC := Lib.hid hwc
      clear hwc c0 c1 c2 c3 hlB hne HC1 HB1
      go_wp2_with fail
      rw [← HWC.out]
      refine CT.out.mono ?_
      rintro e w3 ⟨v3, rfl, ho3⟩
      obtain ⟨L, hL⟩ : ∃ L, L = fr :: gone := ⟨_, rfl⟩
      rw [← hL] at ho3
      have HD := Lib.hid (HD.out)
      rw [← hL] at HD
      obtain ⟨AL, cl, rfl, hl1, hl2, -⟩ := ho3.slice
      obtain ⟨m, hm⟩ : ∃ m, m = L.length := ⟨_, rfl⟩
      have hm2 : m ≤ 20000 := by rw [hm, hL]; have := HG.out.len; have := HGN.out; simp at *; omega
      have HRL := Lib.hid (ho3.recs rfl)
      rw [← hm]
      have HM := Lib.hid hm
      have HB3 := Lib.hid (below_trans HB2.out HB2.out.size (below_trans HBC.out HBC.out.size ho3.bel))
      have HC3 := Lib.hid ((HC2.out.below HBC.out).below ho3.bel)
      have S0 : Hid (DelS w L z 0 (.slice AZ n cz) z w3) := Lib.hid ⟨HZ.out.below HB3.out, HRI.out, Nat.le_refl _, rfl, HB3.out⟩
      clear hL ho3 hl1 hl2 hm CT HWC HBC HC2 HB2 d0 d1 d2 d3 d8 hlB2
      go_wp2_with fail
      go_loopw [0, 8, 35] (fun v er i wr => ∃ (k : Nat) (zk : List RecT) (V : Value), k ≤ m ∧ v = V ∧ i = .int .i64 k ∧ er = .nilIface ∧ Hid (DelS w L z k V zk wr) ∧ Hid (Below w3.heap.size w3 wr)) (fun _ _ i _ => m - (intOf i).toNat)
      case atStart => exact ⟨0, z, _, Nat.zero_le _, rfl, rfl, rfl, S0, Lib.hid (Below.refl _ _)⟩
      case round =>
        obtain ⟨k, zk, V, hk, hv, rfl, rfl, HS, HBR⟩ := hrel
        obtain rfl := hv.symm
        by_cases hkm : k < m
        · have hkm' : (k : Int) < m := by omega
          have hk0 : ¬ (k : Int) < 0 := by omega
          obtain ⟨r, hr⟩ : ∃ q, L[k]? = some q := ⟨_, List.getElem?_eq_getElem (by rw [← HM.out]; exact hkm)⟩
          obtain ⟨g, off, rfl, hg, z0, z1, z2, z3⟩ := (HRL.out.below HBR.out) k _ hr
          have HR := Lib.hid (drop_at hr)
          have DEL := Lib.hid (fun wx hb => delete_zone (HS.out.zone.below hb) r (w := wx) (by have := HS.out.len; have := HZN.out; omega) HS.out.ris)
          unfold recV at DEL
          clear hr
          go_wp2_with fail
          refine (DEL.out _ ((Below.refl _ _).alloc (Nat.le_refl _) _)).mono ?_
          rintro e w5 (⟨hq, rfl, hb⟩ | ⟨hq, v', rfl, ho⟩)
          · have hf : apdR z fr tt gone new = .inl 6 := by
              have h1 := HS.out.rest
              rw [HR.out] at h1
              rw [delAll_cons] at h1
              rw [hq, if_neg (by decide)] at h1
              have := HD.out
              rw [← h1] at this
              exact this
            have HF := Lib.hid hf
            have HBF := Lib.hid (below_trans HS.out.bel HS.out.bel.size (below_alloc (.cells #[.string r.1, .int .u16 r.2.1, .int .u32 r.2.2.1, .string r.2.2.2] 41) (Below.refl _ _) (Nat.le_refl _) hb))
            clear hf hq hb DEL
            unfold errV
            go_wp2_with fail
            exact HFAIL.out 6 HF.out _ HBF.out
          · have HBW := Lib.hid (below_alloc (.cells #[.string r.1, .int .u16 r.2.1, .int .u32 r.2.2.1, .string r.2.2.2] 41) (Below.refl _ _) (Nat.le_refl _) ho.bel)
            have HS2 : Hid (DelS w L z (k + 1) v' (lessR zk r) w5) := Lib.hid (by
              refine ⟨ho.zone, lessR_rising HS.out.ris, ?_, ?_, below_trans HS.out.bel HS.out.bel.size HBW.out⟩
              · have h2 : (lessR zk r).length ≤ zk.length := List.length_filter_le _ _
                have := HS.out.len; omega
              · have h1 := HS.out.rest
                rw [HR.out] at h1
                rw [delAll_cons] at h1
                rw [hq, if_pos rfl] at h1
                exact h1)
            clear ho hq DEL
            go_wp2_with fail
            go_roundw
            case rel => exact ⟨k + 1, _, _, by omega, rfl, by go_num, rfl, HS2, Lib.hid (below_trans HBR.out HBR.out.size HBW.out)⟩
            case measure => simp [intOf]; omega
        · obtain rfl : k = m := by omega
          have hkm' : ¬ (k : Int) < k := by omega
          have hz1 : delAll L z = some zk := by
            have h1 := HS.out.rest
            rw [List.drop_of_length_le (by rw [HM.out]; omega)] at h1
            exact h1.symm
          have hd := HD.out
          rw [hz1] at hd
          have HD := Lib.hid hd
          have HCR := Lib.hid (HC3.out.below HBR.out)
          have d4 := HCR.out.get 4 _
          have d5 := HCR.out.get 5 _
          have d6 := HCR.out.get 6 _
          have d7 := HCR.out.get 7 _
          have d9 := HCR.out.get 9 _
          have hlB2 := HCR.out.lt
          obtain ⟨wc, hwc⟩ : ∃ wc, wc = ((wr.alloc (.cells #[.string tt.1, .int .u16 tt.2.1, .int .u32 tt.2.2.1, .string tt.2.2.2] 41)).alloc (.cells #[.slice An nn cn, .slice (some ⟨wr.heap.size, 0, none⟩) 1 1] 27)) := ⟨_, rfl⟩
          have HBC : Hid (Below wr.heap.size wr wc) := Lib.hid (by rw [hwc]; exact ((Below.refl wr.heap.size wr).alloc (Nat.le_refl _) _).alloc (by simp) _)
          have CT : Hid (Calls Tryd.prog 52 #[.slice (some ⟨wr.heap.size + 1, 0, none⟩) 2 2] wc fun e w' => ∃ v, e = .returned v ∧ OBM 4 wc.heap.size wc v (new ++ [tt]).length (flatR (new ++ [tt])) w') := Lib.hid (by
            have h1 : Cs wc wr.heap.size (recCells tt) := by
              rw [hwc]; exact (Cs.new wr #[.string tt.1, .int .u16 tt.2.1, .int .u32 tt.2.2.1, .string tt.2.2.2] 41 (recCells tt)).alloc _
            have h2 := Cs.new (wr.alloc (.cells #[.string tt.1, .int .u16 tt.2.1, .int .u32 tt.2.2.1, .string tt.2.2.2] 41)) #[.slice An nn cn, .slice (some ⟨wr.heap.size, 0, none⟩) 1 1] 27 [.slice An nn cn, .slice (some ⟨wr.heap.size, 0, none⟩) 1 1]
            rw [← hwc] at h2
            exact concat_last h1 (HN.out.below (below_trans HS.out.bel HS.out.bel.size HBC.out)) (by have := HNN.out; omega) (h2.at_ _ (by simp)))
          have HWC := Lib.hid hwc
          clear hwc hz1 hd
          go_wp2_with fail
          rw [← HWC.out]
          refine CT.out.mono ?_
          rintro e w6 ⟨v6, rfl, ho6⟩
          obtain ⟨L2, hL2⟩ : ∃ L2, L2 = new ++ [tt] := ⟨_, rfl⟩
          rw [← hL2] at ho6 HD
          obtain ⟨AL2, cl2, rfl, hl1, hl2, -⟩ := ho6.slice
          obtain ⟨m2, hm2⟩ : ∃ m2, m2 = L2.length := ⟨_, rfl⟩
          have hmm2 : m2 ≤ 20000 ∧ 0 < m2 := by rw [hm2, hL2]; have := HN.out.len; have := HNN.out; simp at *; omega
          have HRL2 := Lib.hid (ho6.recs rfl)
          rw [← hm2]
          have HM2 := Lib.hid hm2
          have HB6 := Lib.hid (below_trans HBC.out HBC.out.size ho6.bel)
          have S0 : Hid (InsS w L2 zk 0 V zk w6) := Lib.hid ⟨HS.out.zone.below HB6.out, by omega, rfl, below_trans HS.out.bel HS.out.bel.size HB6.out, fun h => by omega⟩
          have HZK : Hid (zk.length ≤ 10000) := Lib.hid (by have := HS.out.len; have := HZN.out; omega)
          obtain ⟨hmm2, hmm0⟩ := hmm2
          clear hL2 ho6 hl1 hl2 hm2 CT HWC HBC HB6 d4 d5 d6 d7 d9 hlB2 HS HCR
          go_wp2_with fail
          go_loopw [0, 8, 57] (fun v er i wr => ∃ (k : Nat) (zj : List RecT) (V : Value), k ≤ m2 ∧ v = V ∧ i = .int .i64 k ∧ er = .nilIface ∧ Hid (InsS w L2 zk k V zj wr) ∧ Hid (Below w6.heap.size w6 wr)) (fun _ _ i _ => m2 - (intOf i).toNat)
          case atStart => exact ⟨0, zk, _, Nat.zero_le _, rfl, rfl, rfl, S0, Lib.hid (Below.refl _ _)⟩
          case round =>
            obtain ⟨j, zj, V, hj, hv, rfl, rfl, HS, HBR⟩ := hrel
            obtain rfl := hv.symm
            by_cases hjm : j < m2
            · have hjm' : (j : Int) < m2 := by omega
              have hj0 : ¬ (j : Int) < 0 := by omega
              obtain ⟨r, hr⟩ : ∃ q, L2[j]? = some q := ⟨_, List.getElem?_eq_getElem (by rw [← HM2.out]; exact hjm)⟩
              obtain ⟨g, off, rfl, hg, z0, z1, z2, z3⟩ := (HRL2.out.below HBR.out) j _ hr
              have HR := Lib.hid (drop_at hr)
              have INS := Lib.hid (fun wx hb => insert_zone (HS.out.zone.below hb) r (w := wx) (by have := HS.out.len; have := HZK.out; omega))
              unfold recV at INS
              clear hr
              go_wp2_with fail
              refine (INS.out _ ((Below.refl _ _).alloc (Nat.le_refl _) _)).mono ?_
              rintro e w7 (⟨hq, rfl, hb⟩ | ⟨hq, v', rfl, ho⟩)
              · have hf : apdR z fr tt gone new = .inl 7 := by
                  have h1 := HS.out.rest
                  rw [HR.out] at h1
                  rw [insAll_cons] at h1
                  rw [hq, if_pos rfl] at h1
                  have := HD.out
                  rw [← h1] at this
                  exact this
                have HF := Lib.hid hf
                have HBF := Lib.hid (below_trans HS.out.bel HS.out.bel.size (below_alloc (.cells #[.string r.1, .int .u16 r.2.1, .int .u32 r.2.2.1, .string r.2.2.2] 41) (Below.refl _ _) (Nat.le_refl _) hb))
                clear hf hq hb INS
                unfold errV
                go_wp2_with fail
                exact HFAIL.out 7 HF.out _ HBF.out
              · have HBW := Lib.hid (below_alloc (.cells #[.string r.1, .int .u16 r.2.1, .int .u32 r.2.2.1, .string r.2.2.2] 41) (Below.refl _ _) (Nat.le_refl _) ho.bel)
                have HS2 : Hid (InsS w L2 zk (j + 1) v' (insR zj r) w7) := Lib.hid (by
                  refine ⟨ho.zone, ?_, ?_, below_trans HS.out.bel HS.out.bel.size HBW.out, fun _ => ?_⟩
                  · rw [insR_len]; have := HS.out.len; omega
                  · have h1 := HS.out.rest
                    rw [HR.out] at h1
                    rw [insAll_cons] at h1
                    rw [hq, if_neg (by decide)] at h1
                    exact h1
                  · exact ho.out (by have := HS.out.bel.size; simp; omega) (HS.out.bel.alloc HS.out.bel.size _))
                clear ho hq INS
                go_wp2_with fail
                go_roundw
                case rel => exact ⟨j + 1, _, _, by omega, rfl, by go_num, rfl, HS2, Lib.hid (below_trans HBR.out HBR.out.size HBW.out)⟩
                case measure => simp [intOf]; omega
            · obtain rfl : j = m2 := by omega
              have hjm' : ¬ (j : Int) < j := by omega
              have hz1 : insAll L2 zk = some zj := by
                have h1 := HS.out.rest
                rw [List.drop_of_length_le (by rw [HM2.out]; omega)] at h1
                exact h1.symm
              have hd := HD.out
              rw [hz1] at hd
              have HD := Lib.hid hd
              clear hz1 hd
              go_wp2_with fail
              exact HOK.out zj V _ HD.out (HS.out.own hmm0)
end Go.Proofs.YtpbbnpglcadimaaDoor
namespace Go.Proofs.YtpbbnpglcadimaaDoor
open Go.RowKit Go.Extern.Stop Go.Stop Go.Extern
set_option linter.unusedVariables false
/-- The variable errors.errorType as the start lays it. -/
abbrev errT : Value := .iface 130 (.agg #[.pointer (some ⟨1, 33, none⟩)])
def Etype (w : World) : Prop := w.cell? ⟨0, 0, none⟩ = some errT
theorem Etype.pos {w : World} (h : Etype w) : 0 < w.heap.size := by
  rcases Nat.eq_zero_or_pos w.heap.size with h0 | h1
  · unfold Etype at h; simp [World.cell?, h0] at h
  · exact h1
theorem Etype.keep {B : Nat} {w w' : World} (h : Etype w) (hB : w.heap.size ≤ B) (hb : Below B w w') : Etype w' := by
  unfold Etype
  rw [World.cell?_of_block (a := ⟨0, 0, none⟩) (hb.block 0 (Nat.lt_of_lt_of_le h.pos hB))]; exact h
theorem as_none (t : Value) (w : World) : Calls Tryd.prog 25 #[.nilIface, t] w fun e w' => e = .returned (.bool false) ∧ w = w' := by
  go_enter Tryd.func25, Tryd.ntmps25
  go_wp2
  go_ret
  exact ⟨rfl, rfl⟩
section
abbrev hP : Value := .pointer (some ⟨1, 72, none⟩)
abbrev hE : Value := .pointer (some ⟨1, 36, none⟩)
theorem as_vp (t : Addr) (w : World) : (ReflectliteValue.unpack (.iface 72 (.pointer (some t)))).run Tryd.prog w = .ok (.agg #[hP, .pointer (some ⟨w.heap.size, 0, none⟩), .int .u64 150]) (w.alloc (.cells #[.pointer (some t)] 72)) := by kernel_rfl
theorem as_ve (x : Int) (w : World) : (ReflectliteValue.unpack (.iface 36 (.int .i64 x))).run Tryd.prog w = .ok (.agg #[hE, .pointer (some ⟨w.heap.size, 0, none⟩), .int .u64 130]) (w.alloc (.cells #[.int .i64 x] 36)) := by kernel_rfl
theorem as_ty (a : Addr) (w : World) : (ReflectliteValue.methodAny (ReflectliteValue.valueError "reflectlite.Value.Type" 0) (fun t _ _ _ => ReflectliteType.toType t) #[.agg #[hP, .pointer (some a), .int .u64 150]]).run Tryd.prog w = .ok (.iface 130 (.agg #[hP])) w := by kernel_rfl
theorem as_mk (h : Value) (w : World) : (Go.method 296 130 (.agg #[h]) "Kind").run Tryd.prog w = .ok (107, h) w := by kernel_rfl
theorem as_me (h : Value) (w : World) : (Go.method 296 130 (.agg #[h]) "Elem").run Tryd.prog w = .ok (117, .agg #[h]) w := by kernel_rfl
theorem as_mi (h : Value) (w : World) : (Go.method 296 130 (.agg #[h]) "Implements").run Tryd.prog w = .ok (118, .agg #[h]) w := by kernel_rfl
theorem as_ma (h : Value) (w : World) : (Go.method 296 130 (.agg #[h]) "AssignableTo").run Tryd.prog w = .ok (115, .agg #[h]) w := by kernel_rfl
theorem as_kp (w : World) : ((ReflectliteType.abiMethod fun t => (fun a : Nat => Value.int IntKind.u8 (a : Int)) <$> Rtype.kind t) #[hP]).run Tryd.prog w = .ok (.int .u8 22) w := by kernel_rfl
theorem as_ke (w : World) : ((ReflectliteType.abiMethod fun t => (fun a : Nat => Value.int IntKind.u8 (a : Int)) <$> Rtype.kind t) #[hE]).run Tryd.prog w = .ok (.int .u8 2) w := by kernel_rfl
theorem as_el (w : World) : (ReflectliteType.method ReflectliteType.elem #[.agg #[hP]]).run Tryd.prog w = .ok (.iface 130 (.agg #[hE])) w := by kernel_rfl
theorem as_im (w : World) : (ReflectliteType.relation "Implements" ReflectliteType.implements_ #[.agg #[hE], errT]).run Tryd.prog w = .ok (.bool true) w := by kernel_rfl
theorem as_to (v : Value) (w : World) : (ReflectliteType.typeOf #[.iface 36 v]).run Tryd.prog w = .ok (.iface 130 (.agg #[hE])) w := by kernel_rfl
theorem as_as (w : World) : (ReflectliteType.relation "AssignableTo" ReflectliteType.assignableTo #[.agg #[hE], .iface 130 (.agg #[hE])]).run Tryd.prog w = .ok (.bool true) w := by kernel_rfl
theorem as_m (z : Sem Value) (f : TypeId → Addr → Nat → Nat → Sem Value) (v : Value) : ReflectliteValue.method z f #[v] = (do match ← ReflectliteValue.parts v with | none => z | some (t, a, fl) => f t a fl (fl % 32)) := rfl
theorem as_pp (a : Addr) (w : World) : (ReflectliteValue.parts (.agg #[hP, .pointer (some a), .int .u64 150])).run Tryd.prog w = .ok (some (72, a, 150)) w := by kernel_rfl
theorem as_pa (a : Addr) (w : World) : (ReflectliteValue.parts (.agg #[hE, .pointer (some a), .int .u64 386])).run Tryd.prog w = .ok (some (36, a, 386)) w := by kernel_rfl
theorem as_pe (a : Addr) (w : World) : (ReflectliteValue.parts (.agg #[hE, .pointer (some a), .int .u64 130])).run Tryd.prog w = .ok (some (36, a, 130)) w := by kernel_rfl
theorem as_nil (a p : Addr) (W : World) (ha : W.cell? a = some (.pointer (some p))) :
    (ReflectliteValue.method (ReflectliteValue.valueError "reflectlite.Value.IsNil" 0) ReflectliteValue.isNil #[.agg #[hP, .pointer (some a), .int .u64 150]]).run Tryd.prog W = .ok (.bool false) W := by
  rw [as_m]
  simp only [Sem.run_bind, as_pp, Result.andThen]
  simp [ReflectliteValue.isNil, loadVar, isAgg, underlying, Tryd.underlying72, ha, Result.andThen]
theorem as_eo (w : World) : (Rtype.elem? 72).run Tryd.prog w = .ok (some 36) w := by kernel_rfl
theorem as_mv (p : Addr) (w : World) : (ReflectliteValue.mk 36 p ReflectliteValue.flagAddr).run Tryd.prog w = .ok (.agg #[hE, .pointer (some p), .int .u64 386]) w := by kernel_rfl
theorem as_elv (a p : Addr) (W : World) (ha : W.cell? a = some (.pointer (some p))) :
    (ReflectliteValue.method (ReflectliteValue.valueError "reflectlite.Value.Elem" 0) ReflectliteValue.elem #[.agg #[hP, .pointer (some a), .int .u64 150]]).run Tryd.prog W = .ok (.agg #[hE, .pointer (some p), .int .u64 386]) W := by
  rw [as_m]
  simp only [Sem.run_bind, as_pp, Result.andThen]
  simp [ReflectliteValue.elem, loadVar, isAgg, underlying, Tryd.underlying72, ha, Result.andThen, as_eo, as_mv]
theorem as_s (v x : Value) : ReflectliteValue.set #[v, x] = (do
    let (some (dst, a, fl), some (src, b, _)) := (← ReflectliteValue.parts v, ← ReflectliteValue.parts x)
      | unsupported (.noEntry "extern/(internal/reflectlite.Value).Set.zeroValue")
    if fl / ReflectliteValue.flagAddr % 2 == 0 then unsupported (.noEntry "extern/(internal/reflectlite.Value).Set.unaddressable")
    let val ← loadVar src b
    if ← Rtype.directlyAssignable dst src then storeVar dst a val
    else if ← Rtype.implements dst src then
      if (← Rtype.kind src) == 20 then
        match val with
        | .nilIface => unsupported (.noEntry "extern/reflectlite: a nil value of one interface type handed on as a value of another")
        | _ => storeVar dst a val
      else storeVar dst a (.iface src val)
    else panicString ("reflectlite.Set: value of type " ++ (← Rtype.spelt src) ++ " is not assignable to type " ++ (← Rtype.spelt dst))
    pure (.tuple #[])) := rfl
theorem as_da (w : World) : (Rtype.directlyAssignable 36 36).run Tryd.prog w = .ok true w := by kernel_rfl
theorem as_set (ta b : Addr) (x : Int) (old : Value) (W : World) (hb : W.cell? b = some (.int .i64 x)) (ht : W.cell? ta = some old) (hf : W.frozen? ta = false) :
    (ReflectliteValue.set #[.agg #[hE, .pointer (some ta), .int .u64 386], .agg #[hE, .pointer (some b), .int .u64 130]]).run Tryd.prog W = .ok (.tuple #[]) (W.setCell ta (.int .i64 x)) := by
  rw [as_s]
  simp only [Sem.run_bind, as_pa, as_pe, Result.andThen]
  simp [ReflectliteValue.flagAddr, loadVar, isAgg, underlying, Tryd.underlying36, hb, Result.andThen, as_da, storeVar, Value.cells, storeCells, Addr.add]
  rw [run_store Tryd.prog W ta _ _ (by rfl)]
  simp [ht, hf]
end
set_option maxHeartbeats 4000000 in
theorem as_errno (x : Int) (t : Addr) (old : Value) (w : World) (hg : Etype w) (ht0 : w.cell? t = some old) (hf0 : w.frozen? t = false) :
    Calls Tryd.prog 25 #[.iface 36 (.int .i64 x), .iface 72 (.pointer (some t))] w fun ev w' => ev = .returned (.bool true) ∧ ∃ W1, Below w.heap.size w W1 ∧ w' = W1.setCell t (.int .i64 x) := by
  have h6 := @run_callFunc_extern Tryd.prog 46 _ (fun args => ReflectliteValue.unpack (args.getD 0 (.tuple #[]))) Tryd.func46 (by kernel_rfl) (by kernel_rfl) (by kernel_rfl) (by kernel_rfl)
  have h7 := @run_callFunc_extern Tryd.prog 47 _ (ReflectliteValue.methodAny (ReflectliteValue.valueError "reflectlite.Value.Type" 0) (fun t _ _ _ => ReflectliteType.toType t)) Tryd.func47 (by kernel_rfl) (by kernel_rfl) (by kernel_rfl) (by kernel_rfl)
  have h8 := @run_callFunc_extern Tryd.prog 48 _ (ReflectliteValue.method (ReflectliteValue.valueError "reflectlite.Value.IsNil" 0) ReflectliteValue.isNil) Tryd.func48 (by kernel_rfl) (by kernel_rfl) (by kernel_rfl) (by kernel_rfl)
  have h9 := @run_callFunc_extern Tryd.prog 107 _ (ReflectliteType.abiMethod fun t => do pure (.int .u8 (← Rtype.kind t))) Tryd.func107 (by kernel_rfl) (by kernel_rfl) (by kernel_rfl) (by kernel_rfl)
  have h10 := @run_callFunc_extern Tryd.prog 117 _ (ReflectliteType.method ReflectliteType.elem) Tryd.func117 (by kernel_rfl) (by kernel_rfl) (by kernel_rfl) (by kernel_rfl)
  have h11 := @run_callFunc_extern Tryd.prog 118 _ (ReflectliteType.relation "Implements" ReflectliteType.implements_) Tryd.func118 (by kernel_rfl) (by kernel_rfl) (by kernel_rfl) (by kernel_rfl)
  have h12 := @run_callFunc_extern Tryd.prog 66 _ ReflectliteType.typeOf Tryd.func66 (by kernel_rfl) (by kernel_rfl) (by kernel_rfl) (by kernel_rfl)
  have h13 := @run_callFunc_extern Tryd.prog 115 _ (ReflectliteType.relation "AssignableTo" ReflectliteType.assignableTo) Tryd.func115 (by kernel_rfl) (by kernel_rfl) (by kernel_rfl) (by kernel_rfl)
  have h14 := @run_callFunc_extern Tryd.prog 67 _ (ReflectliteValue.method (ReflectliteValue.valueError "reflectlite.Value.Elem" 0) ReflectliteValue.elem) Tryd.func67 (by kernel_rfl) (by kernel_rfl) (by kernel_rfl) (by kernel_rfl)
  have h15 := @run_callFunc_extern Tryd.prog 68 _ ReflectliteValue.set Tryd.func68 (by kernel_rfl) (by kernel_rfl) (by kernel_rfl) (by kernel_rfl)
  have g1 := as_to
  have g2 := as_ma
  have g3 := as_as
  have g4 := as_ve
  have g5 := as_vp
  have g6 := as_ty
  have g7 := as_mk
  have g8 := as_me
  have g9 := as_mi
  have g10 := as_kp
  have g11 := as_ke
  have g12 := as_el
  have g13 := as_im
  obtain ⟨o1, ho1⟩ : ∃ o1 : Obj, o1 = .cells #[.pointer (some t)] 72 := ⟨_, rfl⟩
  have hlt := hg.pos
  have hg0 : w.cell? ⟨0, 0, none⟩ = some errT := hg
  have htl : t.block < w.heap.size := by
    rcases Nat.lt_or_ge t.block w.heap.size with h | h
    · exact h
    · simp [World.cell?, Array.getElem?_eq_none h] at ht0
  have n8 := as_nil ⟨w.heap.size, 0, none⟩ t ((w.alloc (.cells #[.pointer (some t)] 72)).alloc (.cells #[hP, .pointer (some ⟨w.heap.size, 0, none⟩), .int .u64 150] 101)) (by simp)
  have hg2 : ((w.alloc (.cells #[.pointer (some t)] 72)).alloc (.cells #[hP, .pointer (some ⟨w.heap.size, 0, none⟩), .int .u64 150] 101)).cell? ⟨0, 0, none⟩ = some errT := by
    rw [World.cell?_alloc_lt _ _ ⟨0, 0, none⟩ (by simp), World.cell?_alloc_lt _ _ ⟨0, 0, none⟩ hlt]; exact hg0
  have el := as_elv ⟨w.heap.size, 0, none⟩ t (((w.alloc (.cells #[.pointer (some t)] 72)).alloc (.cells #[hP, .pointer (some ⟨w.heap.size, 0, none⟩), .int .u64 150] 101)).alloc (.cells #[hP, .pointer (some ⟨w.heap.size, 0, none⟩), .int .u64 150] 101)) (by rw [World.cell?_alloc_lt _ _ ⟨w.heap.size, 0, none⟩ (by simp; omega)]; simp)
  have st := as_set t ⟨w.heap.size + 1 + 1 + 1, 0, none⟩ x old ((((w.alloc (.cells #[.pointer (some t)] 72)).alloc (.cells #[hP, .pointer (some ⟨w.heap.size, 0, none⟩), .int .u64 150] 101)).alloc (.cells #[hP, .pointer (some ⟨w.heap.size, 0, none⟩), .int .u64 150] 101)).alloc (.cells #[.int .i64 x] 36))
    (by rw [World.cell?_alloc_at _ _ _ _ (by simp)]; rfl)
    (by rw [World.cell?_alloc_lt _ _ t (by simp; omega), World.cell?_alloc_lt _ _ t (by simp; omega), World.cell?_alloc_lt _ _ t (by simp; omega), World.cell?_alloc_lt _ _ t htl]; exact ht0)
    (by rw [World.frozen?_alloc_old _ _ t (by simp; omega), World.frozen?_alloc_old _ _ t (by simp; omega), World.frozen?_alloc_old _ _ t (by simp; omega), World.frozen?_alloc_old _ _ t (Nat.ne_of_lt htl)]; exact hf0)
  go_enter Tryd.func25, Tryd.ntmps25
  go_wp2
  refine wp_loop_rounds 1 ?_
  rw [rounds_succ]
  go_wp2
  go_ret
  refine ⟨rfl, _, ?_, rfl⟩
  exact ((((Below.refl _ _).alloc (Nat.le_refl _) _).alloc (by simp) _).alloc (by simp; omega) _).alloc (by simp; omega) _
theorem number_none (w : World) : Calls Tryd.prog 9 #[.nilIface] w fun e w' => e = .returned (.int .i64 0) ∧ Below w.heap.size w w' := by
  go_enter Tryd.func9, Tryd.ntmps9
  go_wp2_with fail
  refine (as_none _ _).mono ?_
  rintro e w1 ⟨rfl, rfl⟩
  go_wp2_with fail
  go_ret
  exact ⟨rfl, (Below.refl _ _).alloc (Nat.le_refl _) _⟩
theorem number_errno (x : Int) (w : World) (hg : Etype w) : Calls Tryd.prog 9 #[.iface 36 (.int .i64 x)] w fun e w' => e = .returned (.int .i64 x) ∧ Below w.heap.size w w' := by
  have hb : Below w.heap.size w (w.alloc (.cells #[.int .i64 0] 36)) := (Below.refl _ _).alloc (Nat.le_refl _) _
  have AE := Lib.hid (as_errno x ⟨w.heap.size, 0, none⟩ (.int .i64 0) (w.alloc (.cells #[.int .i64 0] 36)) (hg.keep (Nat.le_refl _) hb) (by simp) (by simp))
  have HB := Lib.hid hb
  clear hb hg
  go_enter Tryd.func9, Tryd.ntmps9
  go_wp2_with fail
  refine AE.out.mono ?_
  clear AE
  rintro e w1 ⟨rfl, W1, hb1, rfl⟩
  have hc : (W1.setCell ⟨w.heap.size, 0, none⟩ (.int .i64 x)).cell? ⟨w.heap.size, 0, none⟩ = some (.int .i64 x) := by
    refine World.cell?_setCell_same W1 _ _ (u := .int .i64 0) ?_
    rw [World.cell?_of_block (a := ⟨w.heap.size, 0, none⟩) (hb1.block w.heap.size (by simp))]; simp
  have hbel := Lib.hid ((HB.out.trans (hb1.mono (by simp))).setCell (p := ⟨w.heap.size, 0, none⟩) (Nat.le_refl _) (.int .i64 x))
  clear hb1
  go_wp2_with fail
  go_ret
  exact ⟨rfl, hbel.out⟩
end Go.Proofs.YtpbbnpglcadimaaDoor
namespace Go.Proofs.YtpbbnpglcadimaaDoor
open Go.RowKit
set_option linter.unusedVariables false
set_option linter.unusedSimpArgs false
set_option maxRecDepth 20000
attribute [local simp] putsF isV wordOf Deps Region.binds Region.wanted Act.put wantedX isB
theorem app_follows : Tryd.prog.follows .mixedOrders = true := by kernel_rfl
def txt10 : RecT := (⟨#[]⟩, 16, 0, ⟨#[1, 120]⟩)
def S10 (n : Nat) : RecT := soaR ⟨#[]⟩ n
theorem soaD_ne : soaD 1 ≠ soaD 2 := by decide +kernel
theorem eqB_refl10 (r : RecT) : eqB r r = true := (eqB_iff r r).2 rfl
theorem firstS_soa (o : ByteArray) (n : Nat) : firstS [soaR o n] = some (soaR o n) := rfl
theorem lessR_one (r : RecT) : lessR [r] r = [] := by unfold lessR; simp [eqB_refl10]
theorem delta10_a : apdR [S10 1] (S10 1) (S10 2) [txt10] [] = .inl 6 := by
  unfold apdR S10
  rw [firstS_soa]
  simp only [eqB_refl10, if_true]
  rw [delAll_cons, if_pos ((hasB_iff _ _).2 (by simp)), lessR_one, delAll_cons, if_neg (by simp [hasB])]
theorem delta10_b : apdR [S10 1] (S10 1) (S10 2) [] [] = .inr [S10 2] := by
  unfold apdR S10
  rw [firstS_soa]
  simp only [eqB_refl10, if_true]
  rw [delAll_cons, if_pos ((hasB_iff _ _).2 (by simp)), lessR_one]
  simp only [delAll, List.nil_append]
  rw [insAll_cons, if_neg (by simp [hasB])]
  rfl
/-- A delta's value, whose rows lie somewhere. -/
def dW (fr tt : RecT) (r : RecT) : Value → World → Prop := fun v w => ∃ g, v = dltV fr tt (.slice (some ⟨g, 0, none⟩) 1 1) (.slice none 0 0) ∧ Cs w g (recCells r)
theorem dW_stays (fr tt r : RecT) : ∀ v w w', dW fr tt r v w → Goes w w' → dW fr tt r v w' := by
  rintro v w w' ⟨g, rfl, h⟩ hb
  exact ⟨g, rfl, h.below hb⟩
/-- One record in a slice; the same beside no error. -/
def oneR (r : RecT) : Value → World → Prop := fun v w => ∃ g c, v = .slice (some ⟨g, 0, none⟩) 1 c ∧ 1 ≤ c ∧ (∀ i u, (recCells r)[i]? = some u → w.cell? ⟨g, i, none⟩ = some u) ∧ g < w.heap.size
def oneRT (r : RecT) : Value → World → Prop := fun v w => ∃ v', v = .tuple #[v', .nilIface] ∧ oneR r v' w
theorem oneR_stays (r : RecT) : ∀ v w w', oneR r v w → Goes w w' → oneR r v w' := by
  rintro v w w' ⟨g, c, rfl, hc, h, hl⟩ hb
  exact ⟨g, c, rfl, hc, fun i u hu => (hb.cell (p := ⟨g, i, none⟩) hl).trans (h i u hu), Nat.lt_of_lt_of_le hl hb.size⟩
theorem oneRT_stays (r : RecT) : ∀ v w w', oneRT r v w → Goes w w' → oneRT r v w' := by
  rintro v w w' ⟨v', rfl, h⟩ hb
  exact ⟨v', rfl, oneR_stays r _ _ _ h hb⟩
theorem OBM.oneR {B : Nat} {W w : World} {v : Value} {r : RecT} (h : OBM 4 B W v [r].length (flatR [r]) w) : oneR r v w := by
  rcases h.own with ⟨_, h0⟩ | ⟨g, cap, rfl, h1, h2, h3, h4, h5, h6⟩
  · simp at h0
  · exact ⟨g, cap, rfl, h3, fun i u hu => h6 i u (by simpa [flatR] using hu), h2⟩
set_option maxHeartbeats 3200000 in
theorem awake10_any (w : World) (hE : Etype w) : Calls Tryd.prog 13 #[] w fun e w' => e = .returned (.bool true) ∧ Below w.heap.size w w' := by
  obtain ⟨D1, hD1⟩ : ∃ D, D = soaD 1 := ⟨_, rfl⟩
  obtain ⟨D2, hD2⟩ : ∃ D, D = soaD 2 := ⟨_, rfl⟩
  have SO1 : Hid (∀ w, Calls Tryd.prog 10 #[.string ⟨#[]⟩, .int .u32 1] w fun e w' => e = .returned (.agg #[.string ⟨#[]⟩, .int .u16 6, .int .u32 9, .string D1]) ∧ Below w.heap.size w w') := Lib.hid (fun w => by rw [hD1]; exact soa9_any ⟨#[]⟩ 1 (by decide) w)
  have SO2 : Hid (∀ w, Calls Tryd.prog 10 #[.string ⟨#[]⟩, .int .u32 2] w fun e w' => e = .returned (.agg #[.string ⟨#[]⟩, .int .u16 6, .int .u32 9, .string D2]) ∧ Below w.heap.size w w') := Lib.hid (fun w => by rw [hD2]; exact soa9_any ⟨#[]⟩ 2 (by decide) w)
  have r1 : S10 1 = (⟨#[]⟩, 6, 9, D1) := by rw [hD1]; rfl
  have r2 : S10 2 = (⟨#[]⟩, 6, 9, D2) := by rw [hD2]; rfl
  have HE := Lib.hid hE
  have DA := delta10_a
  have DB := delta10_b
  rw [r1, r2] at DA DB
  have HDA := Lib.hid DA
  have HDB := Lib.hid DB
  have hri : Hid (∀ r : RecT, Rising [r]) := Lib.hid (fun r => List.pairwise_singleton _ _)
  have heq : ∀ w, (binOp .eql 41 (recV (⟨#[]⟩, 6, 9, D2)) (recV (⟨#[]⟩, 6, 9, D2))).run Tryd.prog w = .ok (.bool true) w := fun w => by rw [rec_eql, eqB_refl10]
  unfold recV at heq
  clear hE DA DB hD1 hD2 r1 r2
  go_enter Tryd.func13, Tryd.ntmps13
  go_wp2_with fail
  refine (SO1.out _).mono ?_
  rintro e w1 ⟨rfl, hb1⟩
  have HB1 := Lib.hid hb1
  clear hb1
  go_upto_region 2 with fail
  obtain ⟨g, hg⟩ : ∃ g, g = w1.heap.size := ⟨_, rfl⟩
  obtain ⟨w2, hw2⟩ : ∃ w2, w2 = w1.alloc (.cells #[.string ⟨#[]⟩, .int .u16 6, .int .u32 9, .string D1] 41) := ⟨_, rfl⟩
  have HC : Hid (Cs w2 g (recCells (⟨#[]⟩, 6, 9, D1))) := Lib.hid (by rw [hw2, hg]; exact Cs.new w1 _ _ _)
  have HB2 : Hid (Below w.heap.size w w2) := Lib.hid (by rw [hw2]; exact HB1.out.alloc HB1.out.size _)
  rw [← hw2, ← hg]
  clear hw2 hg
  refine wp_region_goesG app_follows (fun x => by simp [putsF, Act.put]; rfl) w2.heap.size w2
    [isV (.slice (some ⟨g, 0, none⟩) 1 1), isV (.slice (some ⟨g, 0, none⟩) 1 1), isV (.pointer (some ⟨g, 0, none⟩)), isV (.agg #[.string ⟨#[]⟩, .int .u16 6, .int .u32 9, .string D1]), isV (.agg #[.string ⟨#[]⟩, .int .u16 6, .int .u32 9, .string D2]), isV (.agg #[.string ⟨#[]⟩, .int .u16 16, .int .u32 0, .string ⟨#[1, 120]⟩]), litW 1 (recCells txt10), dW (⟨#[]⟩, 6, 9, D1) (⟨#[]⟩, 6, 9, D2) txt10, isV (.tuple #[.slice none 0 0, errV 6]), isV (.tuple #[.slice none 0 0, errV 6]), isV (.slice none 0 0), isV (errV 6), isV (.slice none 0 0), isV (errV 6)]
    (by kernel_rfl) (by kernel_rfl) (by kernel_rfl) rfl ?_ (Below.refl _ _) ?_ ?_
  · repeat (first | exact trivial | refine ⟨by first | exact isV_stays _ | exact litW_stays _ _ | exact dW_stays _ _ _, ?_⟩)
  · refine ⟨?_, ?_, ?_, ?_, ?_, ?_, ?_, ?_, ?_, ?_, ?_, ?_, ?_, ?_, trivial⟩
    all_goals
      intro x wx hR hd
      simp at hd ⊢
      try simp [hd]
      have c0 := (HC.out.below hR).get 0 _
      have c1 := (HC.out.below hR).get 1 _
      have c2 := (HC.out.below hR).get 2 _
      have c3 := (HC.out.below hR).get 3 _
      have gl := (HC.out.below hR).lt
    · go_simp; exact next_same _ rfl rfl hR
    · go_simp; exact next_same _ rfl rfl hR
    · go_simp; exact next_same _ rfl rfl hR
    · go_simp; exact next_same _ rfl rfl hR
    · go_simp
      go_at_call 10
      refine (SO2.out wx).mono ?_
      rintro e w3 ⟨rfl, hb3⟩
      exact next_call _ rfl rfl hR hR.size hb3
    · go_simp; exact next_same _ rfl rfl hR
    · go_simp; exact next_alloc _ _ rfl (litW_new 1 _ _ _ _) hR hR.size
    · obtain ⟨h3, h4, g6, h6, hc6⟩ := hd
      rw [h6]
      go_simp
      exact next_same _ rfl ⟨g6, rfl, hc6⟩ hR
    · obtain ⟨h0, ⟨g7, h7, hc7⟩, h4⟩ := hd
      rw [h7]
      unfold dltV dltCells recCells
      go_simp
      go_at_call 29
      refine (apd_any (.slice (some ⟨g, 0, none⟩) 1 1) [(⟨#[]⟩, 6, 9, D1)] (⟨#[]⟩, 6, 9, D1) (⟨#[]⟩, 6, 9, D2) (some ⟨g7, 0, none⟩) none 1 1 0 0 [txt10] [] wx ⟨_, 1, rfl, RowROk.one (HC.out.below hR), (fun e => by cases e), Nat.le_refl _, by decide⟩ (by simp) (hri.out _) (RowROk.one hc7) (by decide) (RowROk.nothing _ _ _) (by decide)).mono ?_
      intro e w3 hD
      rw [HDA.out] at hD
      rcases hD with ⟨er, h1, rfl, hb3⟩ | ⟨z, v, h1, -, -⟩
      · injection h1 with h1
        subst h1
        exact next_call _ rfl rfl hR hR.size hb3
      · cases h1
    · go_simp; exact next_same _ rfl rfl hR
    · go_simp; exact next_same _ rfl rfl hR
    · go_simp; exact next_same _ rfl rfl hR
    · go_simp; exact next_same _ rfl rfl hR
    · go_simp; exact next_same _ rfl rfl hR
  intro x w4 hR4 hx
  obtain ⟨-, -, -, -, -, -, -, -, -, -, -, -, x12, x13, -⟩ := hx
  have x12 : x 12 = _ := x12
  have x13 : x 13 = _ := x13
  rw [x12, x13]
  have HC4 := Lib.hid (HC.out.below hR4)
  have HB4 := Lib.hid (below_trans HB2.out HB2.out.size hR4)
  clear hR4 x12 x13 HC HB2
  unfold errV
  go_upto_region 3 with fail
  refine wp_region_goesG app_follows (fun x => by simp [putsF, Act.put]; rfl) w4.heap.size w4
    [isV (.slice (some ⟨g, 0, none⟩) 1 1), isV (.slice (some ⟨g, 0, none⟩) 1 1), isV (.pointer (some ⟨g, 0, none⟩)), isV (.agg #[.string ⟨#[]⟩, .int .u16 6, .int .u32 9, .string D1]), isV (.agg #[.string ⟨#[]⟩, .int .u16 6, .int .u32 9, .string D2]), isV (dltV (⟨#[]⟩, 6, 9, D1) (⟨#[]⟩, 6, 9, D2) (.slice none 0 0) (.slice none 0 0)), oneRT (⟨#[]⟩, 6, 9, D2), oneRT (⟨#[]⟩, 6, 9, D2), oneR (⟨#[]⟩, 6, 9, D2), isV .nilIface, oneR (⟨#[]⟩, 6, 9, D2), isV .nilIface]
    (by kernel_rfl) (by kernel_rfl) (by kernel_rfl) rfl ?_ (Below.refl _ _) ?_ ?_
  · repeat (first | exact trivial | refine ⟨by first | exact isV_stays _ | exact oneR_stays _ | exact oneRT_stays _, ?_⟩)
  · refine ⟨?_, ?_, ?_, ?_, ?_, ?_, ?_, ?_, ?_, ?_, ?_, ?_, trivial⟩
    all_goals
      intro y wx hR hd
      simp at hd ⊢
      try simp [hd]
      have c0 := (HC4.out.below hR).get 0 _
      have c1 := (HC4.out.below hR).get 1 _
      have c2 := (HC4.out.below hR).get 2 _
      have c3 := (HC4.out.below hR).get 3 _
      have gl := (HC4.out.below hR).lt
    · go_simp; exact next_same _ rfl rfl hR
    · go_simp; exact next_same _ rfl rfl hR
    · go_simp; exact next_same _ rfl rfl hR
    · go_simp; exact next_same _ rfl rfl hR
    · go_simp
      go_at_call 10
      refine (SO2.out wx).mono ?_
      rintro e w3 ⟨rfl, hb3⟩
      exact next_call _ rfl rfl hR hR.size hb3
    · go_simp; exact next_same _ rfl rfl hR
    · unfold dltV dltCells recCells
      go_simp
      go_at_call 29
      refine (apd_any (.slice (some ⟨g, 0, none⟩) 1 1) [(⟨#[]⟩, 6, 9, D1)] (⟨#[]⟩, 6, 9, D1) (⟨#[]⟩, 6, 9, D2) none none 0 0 0 0 [] [] wx ⟨_, 1, rfl, RowROk.one (HC4.out.below hR), (fun e => by cases e), Nat.le_refl _, by decide⟩ (by simp) (hri.out _) (RowROk.nothing _ _ _) (by decide) (RowROk.nothing _ _ _) (by decide)).mono ?_
      intro e w3 hD
      rw [HDB.out] at hD
      rcases hD with ⟨er, h1, -, -⟩ | ⟨z, v, h1, rfl, ho⟩
      · cases h1
      · injection h1 with h1
        subst h1
        exact next_call _ rfl ⟨v, rfl, ho.oneR⟩ hR hR.size ho.bel
    · go_simp; exact next_same _ rfl hd hR
    · obtain ⟨v', h7, ho⟩ := hd
      rw [h7]
      go_simp; exact next_same _ rfl ho hR
    · obtain ⟨v', h7, ho⟩ := hd
      rw [h7]
      go_simp; exact next_same _ rfl rfl hR
    · first | (obtain ⟨hd, -⟩ := hd) | skip
      go_simp; exact next_same _ rfl hd hR
    · go_simp; exact next_same _ rfl rfl hR
  intro y w5 hR5 hy
  obtain ⟨-, -, -, -, -, -, -, -, -, -, ⟨gz, cz, y10, hcz, hcl, hgz⟩, y11, -⟩ := hy
  have y10 : y 10 = _ := y10
  have y11 : y 11 = _ := y11
  rw [y10, y11]
  have HB5 := Lib.hid (below_trans HB4.out HB4.out.size hR5)
  have hcl : ∀ i u, (recCells (⟨#[]⟩, 6, 9, D2))[i]? = some u → w5.cell? ⟨gz, i, none⟩ = some u := hcl
  have z0 := hcl 0 _ rfl
  have z1 := hcl 1 _ rfl
  have z2 := hcl 2 _ rfl
  have z3 := hcl 3 _ rfl
  clear hR5 y10 y11 HC4 HB4 hcl
  go_upto_region 4 with fail
  refine wp_region_goesG app_follows (fun x => by simp [putsF, Act.put]; rfl) w5.heap.size w5
    [isV (errV 6), isV (.int .i64 6), isV (.bool true), isV (.bool true), isV .nilIface, isV (.bool true), isV (.bool true), isV (.bool true), isV (.slice (some ⟨gz, 0, none⟩) 1 cz), isV (.int .i64 1), isV (.bool true), isV (.bool true), isV (.bool true), isV (.slice (some ⟨gz, 0, none⟩) 1 cz), isV (.pointer (some ⟨gz, 0, none⟩)), isV (.agg #[.string ⟨#[]⟩, .int .u16 6, .int .u32 9, .string D2]), isV (.agg #[.string ⟨#[]⟩, .int .u16 6, .int .u32 9, .string D2]), isV (.bool true), isV (.bool true), isV (.bool true)]
    (by kernel_rfl) (by kernel_rfl) (by kernel_rfl) rfl ?_ (Below.refl _ _) ?_ ?_
  · repeat (first | exact trivial | refine ⟨by first | exact isV_stays _, ?_⟩)
  · refine ⟨?_, ?_, ?_, ?_, ?_, ?_, ?_, ?_, ?_, ?_, ?_, ?_, ?_, ?_, ?_, ?_, ?_, ?_, ?_, ?_, trivial⟩
    all_goals
      intro x wx hR hd
      simp at hd ⊢
      try simp [hd]
      have c0 := (hR.cell (p := ⟨gz, 0, none⟩) hgz).trans z0
      have c1 := (hR.cell (p := ⟨gz, 1, none⟩) hgz).trans z1
      have c2 := (hR.cell (p := ⟨gz, 2, none⟩) hgz).trans z2
      have c3 := (hR.cell (p := ⟨gz, 3, none⟩) hgz).trans z3
      have gl : gz < wx.heap.size := Nat.lt_of_lt_of_le hgz hR.size
    all_goals first
      | (go_at_call 9; fail)
      | (unfold errV; go_simp; exact next_same _ rfl rfl hR)
      | (go_simp; exact next_same _ rfl rfl hR)
      | (unfold errV
         go_simp
         go_at_call 9
         refine (number_errno 6 wx (HE.out.keep (Nat.le_refl _) (below_trans HB5.out HB5.out.size hR))).mono ?_
         rintro e w3 ⟨rfl, hb3⟩
         exact next_call _ rfl rfl hR hR.size hb3)
      | (go_simp
         go_at_call 10
         refine (SO2.out wx).mono ?_
         rintro e w3 ⟨rfl, hb3⟩
         exact next_call _ rfl rfl hR hR.size hb3)
      | trace_state
  intro x w6 hR6 hx
  simp [AllWords] at hx ⊢
  have hx19 : x 19 = .bool true := by simp [hx]
  clear hx
  rw [hx19]
  have HB6 := Lib.hid (below_trans HB5.out HB5.out.size hR6)
  clear hR6
  go_wp2_with fail
  go_ret
  exact ⟨rfl, HB6.out⟩
end Go.Proofs.YtpbbnpglcadimaaDoor
namespace Go.Proofs.YtpbbnpglcadimaaDoor
open Go.RowKit
set_option linter.unusedVariables false
set_option linter.unusedSimpArgs false
set_option maxRecDepth 20000
/-- A zone by numbers. -/
def zoneR (o : ByteArray) (n : Nat) (ds : List ActT) (most : Nat) : List RecT := sortedR (undersOf o false ds most ++ [soaR o n])
theorem zoneR_len (o : ByteArray) (n : Nat) (ds : List ActT) (most : Nat) : (zoneR o n ds most).length ≤ most + 1 := by
  have := sortedR_le (undersOf o false ds most ++ [soaR o n])
  rw [List.length_append, undersOf_len] at this
  simp at this
  unfold zoneR; omega
theorem zoneR_rising (o : ByteArray) (n : Nat) (ds : List ActT) (most : Nat) : Rising (zoneR o n ds most) := sortedR_rising _
set_option maxHeartbeats 1600000 in
theorem zone10_any (o : ByteArray) (n : Nat) (hn : n < 4294967296) (A : Option Addr) (m c most : Nat) (ds : List ActT) (w : World) (h : ActsAt w A m ds) (hm : m ≤ maxLen) (hmost : most ≤ 1000) (ho : o.size ≤ maxLen) :
    Calls Tryd.prog 14 #[.string o, .int .u32 (n : Nat), .slice A m c, .int .i64 (most : Nat)] w fun e w' => ∃ v, e = .returned v ∧ OBM 4 w.heap.size w v (zoneR o n ds most).length (flatR (zoneR o n ds most)) w' := by
  obtain ⟨i0, hi, hz0, hz1, hz2⟩ := info_parts4 rec_info
  have UN := Lib.hid (under_any o A m c most false ds w h hm hmost ho)
  have SO := Lib.hid (fun w => soa9_any o n hn w)
  obtain ⟨D, hD⟩ : ∃ D, soaD n = D := ⟨_, rfl⟩
  unfold soaR at SO
  rw [hD] at SO
  have hr : soaR o n = (o, 6, 9, D) := by rw [← hD]; rfl
  obtain ⟨us, hus⟩ : ∃ us, us = undersOf o false ds most := ⟨_, rfl⟩
  have hul : us.length ≤ 1000 := by rw [hus, undersOf_len]; omega
  unfold zoneR
  rw [← hus, hr]
  rw [← hus] at UN
  obtain ⟨Z, hZ⟩ : ∃ Z, Z = us ++ [((o, 6, 9, D) : RecT)] := ⟨_, rfl⟩
  have hZf : flatR Z = flatR us ++ recCells (o, 6, 9, D) := by rw [hZ, flatR_append]; simp [flatR]
  have hZl : Z.length = us.length + 1 := by rw [hZ]; simp
  rw [← hZ]
  have HZF := Lib.hid hZf
  have HZL := Lib.hid hZl
  unfold recV at SO
  clear hr hus h hD hZ hZf hZl
  go_enter Tryd.func14, Tryd.ntmps14
  go_wp2_with fail
  refine UN.out.mono ?_
  rintro e w1 ⟨v, rfl, ho1⟩
  have HO1 := Lib.hid ho1
  clear ho1 UN
  go_wp2_with fail
  refine (SO.out w1).mono ?_
  rintro e w2 ⟨rfl, hb2⟩
  have HB2 := Lib.hid hb2
  have HOX := Lib.hid ((HO1.out.keep hb2 (Nat.le_refl _)).alloc (.cells #[.string o, .int .u16 6, .int .u32 9, .string D] 41))
  have hs := Lib.hid (src_rec (w := w2) (ts := 27) Tryd.underlying27 (o, 6, 9, D))
  clear hb2 HO1
  go_wp2_with (at_builtin; go_loud (refine wpList_append_obm rfl _ _ 27 27 rfl 41 i0 _ 40 Tryd.underlying27 hi hz0 hz1 hz2 rfl HOX.out rfl rfl hs.out rfl (by unfold maxLen; omega) (by omega) ?_))
  intro v' w3 q1 q2 q3 q4
  have Q1 : Hid (OBM 4 w.heap.size w v' Z.length (flatR Z) w3) := Lib.hid (by rw [HZF.out, HZL.out]; exact q1)
  clear q1 q2 q3 q4
  obtain ⟨A3, c3, rfl, hc1, hc2, -⟩ := Q1.out.slice
  have hz : Z.length ≤ 100000 := by have := HZL.out; omega
  have SR := Lib.hid (sorted_any A3 Z.length c3 Z w3 (Q1.out.recs rfl) rfl hz)
  clear hz hc1 hc2
  go_wp2_with fail
  refine SR.out.mono ?_
  rintro e w4 ⟨v4, rfl, ho4⟩
  have HO4 := Lib.hid (ho4.out Q1.out.base Q1.out.bel)
  clear ho4
  go_wp2_with fail
  go_ret
  exact ⟨_, rfl, HO4.out⟩
end Go.Proofs.YtpbbnpglcadimaaDoor
namespace Go.Proofs.YtpbbnpglcadimaaDoor
open Go.RowKit
set_option linter.unusedVariables false
set_option linter.unusedSimpArgs false
theorem foldl_mem9 : ∀ (rs out : List RecT) (q : RecT), q ∈ rs.foldl stepS out → q ∈ out ∨ q ∈ rs
  | [], out, q, h => .inl h
  | r :: rs, out, q, h => by
    rcases foldl_mem9 rs (stepS out r) q h with h | h
    · rcases stepS_cases out r with ⟨h', _⟩ | h'
      · rw [h'] at h; exact .inl h
      · rw [h'] at h
        unfold insR at h
        rcases List.mem_append.1 h with h | h
        · exact .inl ((List.takeWhile_sublist _).mem h)
        · rcases List.mem_cons.1 h with h | h
          · exact .inr (by simp [h])
          · exact .inl ((List.dropWhile_sublist _).mem h)
    · exact .inr (by simp [h])
theorem sortedR_mem (rs : List RecT) (q : RecT) : q ∈ sortedR rs ↔ q ∈ rs :=
  ⟨fun h => by
    rcases foldl_mem9 rs [] q h with h | h
    · cases h
    · exact h, sortedR_has⟩
theorem cmp_lt_irr {a b : RecT} (h1 : cmpR a b < 0) (h2 : cmpR b a < 0) : False := by
  have := cmpR_is.swap a b; omega
theorem cmp_lt_ne {a b : RecT} (h : cmpR a b < 0) : a ≠ b := fun e => by
  subst e; have := cmpR_is.refl a; omega
theorem rising_ext : ∀ {l1 l2 : List RecT}, Rising l1 → Rising l2 → (∀ q, q ∈ l1 ↔ q ∈ l2) → l1 = l2
  | [], [], _, _, _ => rfl
  | [], b :: u, _, _, h => by have := (h b).2 (by simp); cases this
  | a :: t, [], _, _, h => by have := (h a).1 (by simp); cases this
  | a :: t, b :: u, h1, h2, h => by
    have p1 := List.pairwise_cons.1 h1
    have p2 := List.pairwise_cons.1 h2
    have hab : a = b := by
      rcases List.mem_cons.1 ((h a).1 (by simp)) with e | ha
      · exact e
      · rcases List.mem_cons.1 ((h b).2 (by simp)) with e | hb
        · exact e.symm
        · exact (cmp_lt_irr (p2.1 a ha) (p1.1 b hb)).elim
    subst hab
    congr 1
    refine rising_ext p1.2 p2.2 (fun q => ⟨fun hq => ?_, fun hq => ?_⟩)
    · rcases List.mem_cons.1 ((h q).1 (by simp [hq])) with e | e
      · exact absurd e.symm (cmp_lt_ne (p1.1 q hq))
      · exact e
    · rcases List.mem_cons.1 ((h q).2 (by simp [hq])) with e | e
      · exact absurd e.symm (cmp_lt_ne (p2.1 q hq))
      · exact e
/-- The records of one that another one has. -/
def inR (a b : List RecT) : List RecT := a.filter fun r => hasB b r
theorem inR_next {a b : List RecT} {k : Nat} {r : RecT} (h : a[k]? = some r) : inR (a.take (k + 1)) b = inR (a.take k) b ++ if hasB b r then [r] else [] := by
  unfold inR; rw [List.take_add_one, h, List.filter_append]
  congr 1
  simp only [Option.toList_some, List.filter_cons, List.filter_nil]
theorem inR_le (a b : List RecT) : (inR a b).length ≤ a.length := List.length_filter_le _ _
theorem in_wo (a b : List RecT) : (inR a b).length + (woR a b).length = a.length := by
  unfold inR woR
  induction a with
  | nil => rfl
  | cons r a ih =>
    simp only [List.filter_cons]
    cases hasB b r <;> simp <;> omega
theorem inR_mem {a b : List RecT} {q : RecT} : q ∈ inR a b ↔ q ∈ a ∧ q ∈ b := by
  unfold inR; rw [List.mem_filter, hasB_iff]
theorem woR_mem {a b : List RecT} {q : RecT} : q ∈ woR a b ↔ q ∈ a ∧ q ∉ b := by
  unfold woR
  rw [List.mem_filter]
  constructor
  · rintro ⟨h1, h2⟩; exact ⟨h1, hasB_false.1 (by simpa using h2)⟩
  · rintro ⟨h1, h2⟩; exact ⟨h1, by simpa using hasB_false.2 h2⟩
theorem inR_rising {a b : List RecT} (h : Rising a) : Rising (inR a b) := List.Pairwise.sublist List.filter_sublist h
theorem woR_rising {a b : List RecT} (h : Rising a) : Rising (woR a b) := List.Pairwise.sublist List.filter_sublist h
theorem in_swap {a b : List RecT} (h1 : Rising a) (h2 : Rising b) : inR a b = inR b a :=
  rising_ext (inR_rising h1) (inR_rising h2) (fun q => by rw [inR_mem, inR_mem]; exact ⟨fun h => ⟨h.2, h.1⟩, fun h => ⟨h.2, h.1⟩⟩)
theorem in_wo_swap {a b : List RecT} (h1 : Rising a) (h2 : Rising b) : (inR a b).length + (woR b a).length = b.length := by
  rw [in_swap h1 h2]; exact in_wo b a
theorem sorted_join {a b : List RecT} (h1 : Rising a) (h2 : Rising b) : sortedR (inR a b ++ woR b a) = b :=
  rising_ext (sortedR_rising _) h2 (fun q => by
    rw [sortedR_mem, List.mem_append, inR_mem, woR_mem]
    constructor
    · rintro (h | h)
      · exact h.2
      · exact h.1
    · intro h
      by_cases hq : q ∈ a
      · exact .inl ⟨hq, h⟩
      · exact .inr ⟨h, hq⟩)
theorem rising_at {l : List RecT} (h : Rising l) {j k : Nat} {x y : RecT} (hj : l[j]? = some x) (hk : l[k]? = some y) (hjk : j < k) : cmpR x y < 0 := by
  obtain ⟨h1, e1⟩ := List.getElem?_eq_some_iff.1 hj
  obtain ⟨h2, e2⟩ := List.getElem?_eq_some_iff.1 hk
  have := List.pairwise_iff_getElem.1 h j k h1 h2 hjk
  rwa [e1, e2] at this
theorem originB_small (n : Nat) : (originB n).size ≤ 254 := by
  unfold originB
  rw [mk_size]
  exact nameZ_le _ (by intro z hz; simp at hz; omega)
end Go.Proofs.YtpbbnpglcadimaaDoor
namespace Go.Proofs.YtpbbnpglcadimaaDoor
open Go.RowKit
set_option linter.unusedVariables false
set_option linter.unusedSimpArgs false
set_option maxRecDepth 20000
attribute [local simp] putsF isV wordOf Deps Region.binds Region.wanted Act.put wantedX isB
def badR (m : RecT → Bool) (o : ByteArray) (prev : Option RecT) (r : RecT) : Bool := (match prev with | none => false | some p => decide (0 ≤ cmpR p r)) || !m r || !(stripOf r.1 o).isSome || (r.2.1 == 6 && !(r.1.toList == o.toList))
def scanR (m : RecT → Bool) (o : ByteArray) : Option RecT → Nat → List RecT → Option Nat
  | _, n, [] => some n
  | prev, n, r :: rs => if badR m o prev r = true then none else scanR m o (some r) (if r.2.1 == 6 then n + 1 else n) rs
def prevOf (z : List RecT) (k : Nat) : Option RecT := if k = 0 then none else z[k - 1]?
theorem scan_next {m : RecT → Bool} {o : ByteArray} {z : List RecT} {k s : Nat} {r : RecT} (h : z[k]? = some r) : scanR m o (prevOf z k) s (z.drop k) = if badR m o (prevOf z k) r = true then none else scanR m o (prevOf z (k + 1)) (if r.2.1 == 6 then s + 1 else s) (z.drop (k + 1)) := by
  obtain ⟨hlt, he⟩ := List.getElem?_eq_some_iff.1 h
  rw [List.drop_eq_getElem_cons hlt, he]
  show (if badR m o (prevOf z k) r = true then none else scanR m o (some r) _ _) = _
  have : prevOf z (k + 1) = some r := by unfold prevOf; simp [h]
  rw [this]
/-- Whether they are a zone. -/
def rightR (m : RecT → Bool) (o : ByteArray) (z : List RecT) : Bool := match scanR m o none 0 z with | none => false | some n => n == 1 && (decide (z.length ≤ 256) && decide (sizeR z ≤ 16384))
set_option maxHeartbeats 12800000 in
theorem right_any (m : RecT → Bool) (o : ByteArray) (A : Option Addr) (M c : Nat) (z : List RecT) (w : World) (h : Recs w A z) (hl : z.length = M) (hn : M ≤ 1000) (hs : sizeR z ≤ 1000000000000) (ho : o.size ≤ 100000) (hzs : ∀ r ∈ z, r.1.size ≤ 254)
    (hm : ∀ r ∈ z, ∀ w, Calls Tryd.prog 40 #[recV r] w fun e w' => e = .returned (.bool (m r)) ∧ Below w.heap.size w w') :
    Calls Tryd.prog 58 #[.slice A M c, .string o] w fun e w' => e = .returned (.bool (rightR m o z)) ∧ Below w.heap.size w w' := by
  obtain ⟨R, hRR⟩ : ∃ R, rightR m o z = R := ⟨_, rfl⟩
  rw [hRR]
  have HRR := Lib.hid hRR
  have FT := Lib.hid (fun w h => fits_any A M c z w h hl (by unfold maxLen; omega) hs)
  have H := Lib.hid h
  have HL := Lib.hid hl
  have HM := Lib.hid hm
  have HZS := Lib.hid hzs
  clear hRR h hl hs hm hzs
  go_enter Tryd.func58, Tryd.ntmps58
  go_wp2_with fail
  go_loopw [5, 10] (fun sv i wr => ∃ k s : Nat, k ≤ M ∧ i = .int .i64 k ∧ sv = .int .i64 s ∧ s ≤ k ∧ Hid (scanR m o none 0 z = scanR m o (prevOf z k) s (z.drop k)) ∧ Hid (Below w.heap.size w wr)) (fun _ i _ => M - (intOf i).toNat)
  case atStart => exact ⟨0, 0, Nat.zero_le _, rfl, rfl, Nat.le_refl _, Lib.hid (by simp [prevOf]), Lib.hid (Below.refl _ _)⟩
  case round =>
    obtain ⟨k, s, hk, rfl, rfl, hsk, HK, HB⟩ := hrel
    by_cases hlt : k < M
    · obtain ⟨r, hq⟩ : ∃ q, z[k]? = some q := ⟨_, List.getElem?_eq_getElem (by rw [HL.out]; exact hlt)⟩
      have HN := Lib.hid (scan_next (m := m) (o := o) (s := s) hq)
      have hmem := List.mem_of_getElem? hq
      have CM := Lib.hid (HM.out r hmem)
      have hrs := HZS.out r hmem
      have CB := Lib.hid (fun w => below_any r.1 o w (by unfold maxLen; omega) (by unfold maxLen; omega))
      obtain ⟨bb, off, rfl, hbb, y0, y1, y2, y3⟩ := (H.out.below HB.out) k _ hq
      obtain ⟨r0, r1, r2, r3⟩ := r
      simp only at y0 y1 y2 y3 hrs CB
      unfold recV at CM
      simp only at CM
      obtain ⟨W5, hW5⟩ : ∃ W, W = wr.alloc (.cells #[.string r0, .int .u16 r1, .int .u32 r2, .string r3] 41) := ⟨_, rfl⟩
      have HW5 := Lib.hid hW5
      have HBX : Hid (Cs W5 wr.heap.size [.string r0, .int .u16 r1, .int .u32 r2, .string r3]) := Lib.hid (by rw [hW5]; exact Cs.new _ _ _ _)
      have HB5 : Hid (Below w.heap.size w W5) := Lib.hid (by rw [hW5]; exact HB.out.alloc HB.out.size _)
      have HR5 := Lib.hid (H.out.below HB5.out)
      clear hW5 hmem hrs
      rcases Nat.eq_zero_or_pos k with rfl | hkp
      · have hlt' : ((0 : Nat) : Int) < M := by omega
        simp only [Nat.zero_mul, Nat.add_zero] at y0 y1 y2 y3
        clear hq
        cases em : m (r0, r1, r2, r3) with
        | false =>
          rw [em] at CM
          go_upto_region 5 with fail
          rw [← HW5.out]
          refine wp_region_goesG data_follows (fun x => by simp [putsF, Act.put]; rfl) W5.heap.size W5
            [isV (.int .i64 (0 : Nat)), isV (.bool false), isV (.bool false), isV undef, isV undef, isV undef, isV undef, isV undef, isV undef, isV undef, isV undef, isV (.bool false), isV (.bool false), isV (.agg #[.string r0, .int .u16 r1, .int .u32 r2, .string r3]), isV (.bool false), isV (.bool true), isV (.bool true), isV (.bool true), isV undef, isV undef, isV undef, isV undef, isV undef, isV (.bool true)]
            (by kernel_rfl) (by kernel_rfl) (by kernel_rfl) rfl ?_ (Below.refl _ _) ?_ ?_
          · repeat (first | exact trivial | refine ⟨isV_stays _, ?_⟩)
          · refine ⟨?_, ?_, ?_, ?_, ?_, ?_, ?_, ?_, ?_, ?_, ?_, ?_, ?_, ?_, ?_, ?_, ?_, ?_, ?_, ?_, ?_, ?_, ?_, ?_, trivial⟩
            all_goals
              intro x wx hR hd
              simp at hd
              first
              | (refine ⟨fun hX => ?_, fun _ => rfl⟩; simp [hd] at hX; done)
              | (refine ⟨fun hX => ?_, fun _ => rfl⟩; simp [hd, undef] at hX; done)
              | (refine ⟨fun _ => ?_, fun hX => ?_⟩; rotate_left; (focus simp [hd] at hX); have hc := HBX.out.below hR; have u0 := hc.get 0 _; have u1 := hc.get 1 _; have u2 := hc.get 2 _; have u3 := hc.get 3 _;  clear hc; (try simp [hd]); go_simp; exact next_same _ rfl rfl hR)
              | (refine ⟨fun _ => ?_, fun hX => ?_⟩; rotate_left; (focus simp [hd] at hX); (try simp [hd]); go_simp; go_at_call 40; refine (CM.out wx).mono ?_; rintro e w2 ⟨rfl, hb⟩; exact next_call _ rfl rfl hR hR.size hb)
              | (refine ⟨fun _ => ?_, fun hX => ?_⟩; rotate_left; (focus simp [hd] at hX); (try simp [hd]); go_simp; go_at_call 41; refine (CB.out wx).mono ?_; rintro e w2 ⟨rfl, hb⟩; exact next_call _ rfl rfl hR hR.size hb)
              | (refine ⟨fun _ => ?_, fun hX => ?_⟩; rotate_left; (focus simp [hd] at hX); (try simp [hd]); go_simp; go_at_call 72; refine (CC.out wx).mono ?_; rintro e w2 ⟨rfl, hb⟩; exact next_call _ rfl rfl hR hR.size hb)
          intro x wx hR hx
          simp [AllWords] at hx
          have hlast : x 23 = .bool true := by simp [hx]
          rw [hlast]
          clear hx hlast
          have hc := HBX.out.below hR
          have u0 := hc.get 0 _
          have u1 := hc.get 1 _
          have u2 := hc.get 2 _
          have u3 := hc.get 3 _
          have HBN := Lib.hid (below_trans HB5.out HB5.out.size hR)
          clear hc hR
          have hR0 : R = false := by
            rw [← HRR.out]; unfold rightR
            rw [HK.out, HN.out, if_pos (by simp [badR, prevOf, em])]
          go_wp2_with fail
          go_ret
          exact ⟨by first | rfl | rw [hR0], HBN.out⟩
        | true =>
          rw [em] at CM
          cases eb : (stripOf r0 o).isSome with
          | false =>
            rw [eb] at CB
            go_upto_region 5 with fail
            rw [← HW5.out]
            refine wp_region_goesG data_follows (fun x => by simp [putsF, Act.put]; rfl) W5.heap.size W5
              [isV (.int .i64 (0 : Nat)), isV (.bool false), isV (.bool false), isV undef, isV undef, isV undef, isV undef, isV undef, isV undef, isV undef, isV undef, isV (.bool false), isV (.bool false), isV (.agg #[.string r0, .int .u16 r1, .int .u32 r2, .string r3]), isV (.bool true), isV (.bool false), isV (.bool false), isV (.bool false), isV (.pointer (some ⟨wr.heap.size, 0, none⟩)), isV (.string r0), isV (.string o), isV (.bool false), isV (.bool true), isV (.bool true)]
              (by kernel_rfl) (by kernel_rfl) (by kernel_rfl) rfl ?_ (Below.refl _ _) ?_ ?_
            · repeat (first | exact trivial | refine ⟨isV_stays _, ?_⟩)
            · refine ⟨?_, ?_, ?_, ?_, ?_, ?_, ?_, ?_, ?_, ?_, ?_, ?_, ?_, ?_, ?_, ?_, ?_, ?_, ?_, ?_, ?_, ?_, ?_, ?_, trivial⟩
              all_goals
                intro x wx hR hd
                simp at hd
                first
                | (refine ⟨fun hX => ?_, fun _ => rfl⟩; simp [hd] at hX; done)
                | (refine ⟨fun hX => ?_, fun _ => rfl⟩; simp [hd, undef] at hX; done)
                | (refine ⟨fun _ => ?_, fun hX => ?_⟩; rotate_left; (focus simp [hd] at hX); have hc := HBX.out.below hR; have u0 := hc.get 0 _; have u1 := hc.get 1 _; have u2 := hc.get 2 _; have u3 := hc.get 3 _;  clear hc; (try simp [hd]); go_simp; exact next_same _ rfl rfl hR)
                | (refine ⟨fun _ => ?_, fun hX => ?_⟩; rotate_left; (focus simp [hd] at hX); (try simp [hd]); go_simp; go_at_call 40; refine (CM.out wx).mono ?_; rintro e w2 ⟨rfl, hb⟩; exact next_call _ rfl rfl hR hR.size hb)
                | (refine ⟨fun _ => ?_, fun hX => ?_⟩; rotate_left; (focus simp [hd] at hX); (try simp [hd]); go_simp; go_at_call 41; refine (CB.out wx).mono ?_; rintro e w2 ⟨rfl, hb⟩; exact next_call _ rfl rfl hR hR.size hb)
                | (refine ⟨fun _ => ?_, fun hX => ?_⟩; rotate_left; (focus simp [hd] at hX); (try simp [hd]); go_simp; go_at_call 72; refine (CC.out wx).mono ?_; rintro e w2 ⟨rfl, hb⟩; exact next_call _ rfl rfl hR hR.size hb)
            intro x wx hR hx
            simp [AllWords] at hx
            have hlast : x 23 = .bool true := by simp [hx]
            rw [hlast]
            clear hx hlast
            have hc := HBX.out.below hR
            have u0 := hc.get 0 _
            have u1 := hc.get 1 _
            have u2 := hc.get 2 _
            have u3 := hc.get 3 _
            have HBN := Lib.hid (below_trans HB5.out HB5.out.size hR)
            clear hc hR
            have hR0 : R = false := by
              rw [← HRR.out]; unfold rightR
              rw [HK.out, HN.out, if_pos (by simp [badR, prevOf, em, eb])]
            go_wp2_with fail
            go_ret
            exact ⟨by first | rfl | rw [hR0], HBN.out⟩
          | true =>
            rw [eb] at CB
            go_upto_region 5 with fail
            rw [← HW5.out]
            refine wp_region_goesG data_follows (fun x => by simp [putsF, Act.put]; rfl) W5.heap.size W5
              [isV (.int .i64 (0 : Nat)), isV (.bool false), isV (.bool false), isV undef, isV undef, isV undef, isV undef, isV undef, isV undef, isV undef, isV undef, isV (.bool false), isV (.bool false), isV (.agg #[.string r0, .int .u16 r1, .int .u32 r2, .string r3]), isV (.bool true), isV (.bool false), isV (.bool false), isV (.bool false), isV (.pointer (some ⟨wr.heap.size, 0, none⟩)), isV (.string r0), isV (.string o), isV (.bool true), isV (.bool false), isV (.bool false)]
              (by kernel_rfl) (by kernel_rfl) (by kernel_rfl) rfl ?_ (Below.refl _ _) ?_ ?_
            · repeat (first | exact trivial | refine ⟨isV_stays _, ?_⟩)
            · refine ⟨?_, ?_, ?_, ?_, ?_, ?_, ?_, ?_, ?_, ?_, ?_, ?_, ?_, ?_, ?_, ?_, ?_, ?_, ?_, ?_, ?_, ?_, ?_, ?_, trivial⟩
              all_goals
                intro x wx hR hd
                simp at hd
                first
                | (refine ⟨fun hX => ?_, fun _ => rfl⟩; simp [hd] at hX; done)
                | (refine ⟨fun hX => ?_, fun _ => rfl⟩; simp [hd, undef] at hX; done)
                | (refine ⟨fun _ => ?_, fun hX => ?_⟩; rotate_left; (focus simp [hd] at hX); have hc := HBX.out.below hR; have u0 := hc.get 0 _; have u1 := hc.get 1 _; have u2 := hc.get 2 _; have u3 := hc.get 3 _;  clear hc; (try simp [hd]); go_simp; exact next_same _ rfl rfl hR)
                | (refine ⟨fun _ => ?_, fun hX => ?_⟩; rotate_left; (focus simp [hd] at hX); (try simp [hd]); go_simp; go_at_call 40; refine (CM.out wx).mono ?_; rintro e w2 ⟨rfl, hb⟩; exact next_call _ rfl rfl hR hR.size hb)
                | (refine ⟨fun _ => ?_, fun hX => ?_⟩; rotate_left; (focus simp [hd] at hX); (try simp [hd]); go_simp; go_at_call 41; refine (CB.out wx).mono ?_; rintro e w2 ⟨rfl, hb⟩; exact next_call _ rfl rfl hR hR.size hb)
                | (refine ⟨fun _ => ?_, fun hX => ?_⟩; rotate_left; (focus simp [hd] at hX); (try simp [hd]); go_simp; go_at_call 72; refine (CC.out wx).mono ?_; rintro e w2 ⟨rfl, hb⟩; exact next_call _ rfl rfl hR hR.size hb)
            intro x wx hR hx
            simp [AllWords] at hx
            have hlast : x 23 = .bool false := by simp [hx]
            rw [hlast]
            clear hx hlast
            have hc := HBX.out.below hR
            have u0 := hc.get 0 _
            have u1 := hc.get 1 _
            have u2 := hc.get 2 _
            have u3 := hc.get 3 _
            have HBN := Lib.hid (below_trans HB5.out HB5.out.size hR)
            clear hc hR
            have HGB : Hid (badR m o (prevOf z 0) (r0, r1, r2, r3) = (r1 == 6 && !(r0.toList == o.toList))) := Lib.hid (by simp [badR, prevOf, em, eb])
            cases e6 : (r1 == 6) with
            | false =>
              rw [HGB.out, e6] at HN
              have HN2 : Hid (scanR m o (prevOf z 0) s (z.drop 0) = scanR m o (prevOf z (0 + 1)) s (z.drop (0 + 1))) := Lib.hid (by rw [HN.out]; simp [e6])
              go_wp2_with fail
              go_round
              case rel => exact ⟨0 + 1, s, by omega, by first | rfl | go_num, rfl, by omega, Lib.hid (HK.out.trans HN2.out), HBN⟩
              case measure => simp [intOf]; omega
            | true =>
              cases eo : (r0.toList == o.toList) with
              | true =>
                rw [HGB.out, e6, eo] at HN
                have HN2 : Hid (scanR m o (prevOf z 0) s (z.drop 0) = scanR m o (prevOf z (0 + 1)) (s + 1) (z.drop (0 + 1))) := Lib.hid (by rw [HN.out]; simp [e6])
                have hw1 : IntKind.i64.wrap ((s : Int) + 1) = ((s + 1 : Nat) : Int) := by rw [IntKind.wrap_i64]; omega
                go_wp2_with fail
                go_round
                case rel => exact ⟨0 + 1, s + 1, by omega, by first | rfl | go_num, by first | rfl | go_num, by omega, Lib.hid (HK.out.trans HN2.out), HBN⟩
                case measure => simp [intOf]; omega
              | false =>
                have hR0 : R = false := by
                  rw [← HRR.out]; unfold rightR
                  rw [HK.out, HN.out, if_pos (by rw [HGB.out, e6, eo]; rfl)]
                go_wp2_with fail
                go_ret
                exact ⟨by first | rfl | rw [hR0], HBN.out⟩
      · obtain ⟨j, rfl⟩ : ∃ j, k = j + 1 := ⟨k - 1, by omega⟩
        have hlt' : ((j + 1 : Nat) : Int) < M := by omega
        have hlt2 : (j : Int) + 1 < M := by omega
        have hlt3 : (j : Int) < M := by omega
        have hj0 : ¬ (j : Int) < 0 := by omega
        have hjp : (0 : Int) < (j : Int) + 1 := by omega
        obtain ⟨p, hp⟩ : ∃ q, z[j]? = some q := ⟨_, List.getElem?_eq_getElem (by rw [HL.out]; omega)⟩
        have PV : Hid (∀ wx, Below W5.heap.size W5 wx → wx.cell? ⟨bb, off + j * 4, none⟩ = some (.string p.1) ∧ wx.cell? ⟨bb, off + j * 4 + 1, none⟩ = some (.int .u16 p.2.1) ∧ wx.cell? ⟨bb, off + j * 4 + 2, none⟩ = some (.int .u32 p.2.2.1) ∧ wx.cell? ⟨bb, off + j * 4 + 3, none⟩ = some (.string p.2.2.2)) := Lib.hid (fun wx hb => by
          obtain ⟨b2, off2, he, _, q0, q1, q2, q3⟩ := (HR5.out.below hb) j _ hp
          injection he with he; injection he with he1 he2 he3
          subst he1 he2
          exact ⟨q0, q1, q2, q3⟩)
        have hpv : prevOf z (j + 1) = some p := by unfold prevOf; simp [hp]
        obtain ⟨p0, p1, p2, p3⟩ := p
        simp only at PV
        obtain ⟨x, hx⟩ : ∃ x, cmpR (p0, p1, p2, p3) (r0, r1, r2, r3) = x := ⟨_, rfl⟩
        have hrg : x = -1 ∨ x = 0 ∨ x = 1 := by rw [← hx]; exact cmpR_is.range _ _
        have CC := Lib.hid (fun w => compare_any (p0, p1, p2, p3) (r0, r1, r2, r3) w)
        rw [hx] at CC
        unfold recV at CC
        simp only at CC
        have hwj : IntKind.i64.wrap (((j + 1 : Nat) : Int) - 1) = (j : Int) := by rw [IntKind.wrap_i64]; omega
        have hwj2 : IntKind.i64.wrap (((j : Int) + 1) - 1) = (j : Int) := by rw [IntKind.wrap_i64]; omega
        have hwj3 : IntKind.i64.wrap (j : Int) = (j : Int) := by rw [IntKind.wrap_i64]; omega
        clear hp hq hkp
        rcases hrg with rfl | rfl | rfl
        · cases em : m (r0, r1, r2, r3) with
          | false =>
            rw [em] at CM
            go_upto_region 5 with fail
            rw [← HW5.out]
            refine wp_region_goesG data_follows (fun x => by simp [putsF, Act.put]; rfl) W5.heap.size W5
              [isV (.int .i64 ((j + 1 : Nat) : Int)), isV (.bool true), isV (.bool true), isV (.slice (some ⟨bb, off, none⟩) M c), isV (.int .i64 ((j + 1 : Nat) : Int)), isV (.int .i64 (j : Nat)), isV (.pointer (some ⟨bb, off + j * 4, none⟩)), isV (.agg #[.string p0, .int .u16 p1, .int .u32 p2, .string p3]), isV (.agg #[.string r0, .int .u16 r1, .int .u32 r2, .string r3]), isV (.int .i64 (-1)), isV (.bool false), isV (.bool false), isV (.bool false), isV (.agg #[.string r0, .int .u16 r1, .int .u32 r2, .string r3]), isV (.bool false), isV (.bool true), isV (.bool true), isV (.bool true), isV undef, isV undef, isV undef, isV undef, isV undef, isV (.bool true)]
              (by kernel_rfl) (by kernel_rfl) (by kernel_rfl) rfl ?_ (Below.refl _ _) ?_ ?_
            · repeat (first | exact trivial | refine ⟨isV_stays _, ?_⟩)
            · refine ⟨?_, ?_, ?_, ?_, ?_, ?_, ?_, ?_, ?_, ?_, ?_, ?_, ?_, ?_, ?_, ?_, ?_, ?_, ?_, ?_, ?_, ?_, ?_, ?_, trivial⟩
              all_goals
                intro x wx hR hd
                simp at hd
                first
                | (refine ⟨fun hX => ?_, fun _ => rfl⟩; simp [hd] at hX; done)
                | (refine ⟨fun hX => ?_, fun _ => rfl⟩; simp [hd, undef] at hX; done)
                | (refine ⟨fun _ => ?_, fun hX => ?_⟩; rotate_left; (focus simp [hd] at hX); have hc := HBX.out.below hR; have u0 := hc.get 0 _; have u1 := hc.get 1 _; have u2 := hc.get 2 _; have u3 := hc.get 3 _; obtain ⟨v0, v1, v2, v3⟩ := PV.out wx hR; clear hc; (try simp [hd]); go_simp; exact next_same _ rfl rfl hR)
                | (refine ⟨fun _ => ?_, fun hX => ?_⟩; rotate_left; (focus simp [hd] at hX); (try simp [hd]); go_simp; go_at_call 40; refine (CM.out wx).mono ?_; rintro e w2 ⟨rfl, hb⟩; exact next_call _ rfl rfl hR hR.size hb)
                | (refine ⟨fun _ => ?_, fun hX => ?_⟩; rotate_left; (focus simp [hd] at hX); (try simp [hd]); go_simp; go_at_call 41; refine (CB.out wx).mono ?_; rintro e w2 ⟨rfl, hb⟩; exact next_call _ rfl rfl hR hR.size hb)
                | (refine ⟨fun _ => ?_, fun hX => ?_⟩; rotate_left; (focus simp [hd] at hX); (try simp [hd]); go_simp; go_at_call 72; refine (CC.out wx).mono ?_; rintro e w2 ⟨rfl, hb⟩; exact next_call _ rfl rfl hR hR.size hb)
            intro x wx hR hx
            simp [AllWords] at hx
            have hlast : x 23 = .bool true := by simp [hx]
            rw [hlast]
            clear hx hlast
            have hc := HBX.out.below hR
            have u0 := hc.get 0 _
            have u1 := hc.get 1 _
            have u2 := hc.get 2 _
            have u3 := hc.get 3 _
            have HBN := Lib.hid (below_trans HB5.out HB5.out.size hR)
            clear hc hR
            have hR0 : R = false := by
              rw [← HRR.out]; unfold rightR
              rw [HK.out, HN.out, if_pos (by simp [badR, hpv, hx, em])]
            go_wp2_with fail
            go_ret
            exact ⟨by first | rfl | rw [hR0], HBN.out⟩
          | true =>
            rw [em] at CM
            cases eb : (stripOf r0 o).isSome with
            | false =>
              rw [eb] at CB
              go_upto_region 5 with fail
              rw [← HW5.out]
              refine wp_region_goesG data_follows (fun x => by simp [putsF, Act.put]; rfl) W5.heap.size W5
                [isV (.int .i64 ((j + 1 : Nat) : Int)), isV (.bool true), isV (.bool true), isV (.slice (some ⟨bb, off, none⟩) M c), isV (.int .i64 ((j + 1 : Nat) : Int)), isV (.int .i64 (j : Nat)), isV (.pointer (some ⟨bb, off + j * 4, none⟩)), isV (.agg #[.string p0, .int .u16 p1, .int .u32 p2, .string p3]), isV (.agg #[.string r0, .int .u16 r1, .int .u32 r2, .string r3]), isV (.int .i64 (-1)), isV (.bool false), isV (.bool false), isV (.bool false), isV (.agg #[.string r0, .int .u16 r1, .int .u32 r2, .string r3]), isV (.bool true), isV (.bool false), isV (.bool false), isV (.bool false), isV (.pointer (some ⟨wr.heap.size, 0, none⟩)), isV (.string r0), isV (.string o), isV (.bool false), isV (.bool true), isV (.bool true)]
                (by kernel_rfl) (by kernel_rfl) (by kernel_rfl) rfl ?_ (Below.refl _ _) ?_ ?_
              · repeat (first | exact trivial | refine ⟨isV_stays _, ?_⟩)
              · refine ⟨?_, ?_, ?_, ?_, ?_, ?_, ?_, ?_, ?_, ?_, ?_, ?_, ?_, ?_, ?_, ?_, ?_, ?_, ?_, ?_, ?_, ?_, ?_, ?_, trivial⟩
                all_goals
                  intro x wx hR hd
                  simp at hd
                  first
                  | (refine ⟨fun hX => ?_, fun _ => rfl⟩; simp [hd] at hX; done)
                  | (refine ⟨fun hX => ?_, fun _ => rfl⟩; simp [hd, undef] at hX; done)
                  | (refine ⟨fun _ => ?_, fun hX => ?_⟩; rotate_left; (focus simp [hd] at hX); have hc := HBX.out.below hR; have u0 := hc.get 0 _; have u1 := hc.get 1 _; have u2 := hc.get 2 _; have u3 := hc.get 3 _; obtain ⟨v0, v1, v2, v3⟩ := PV.out wx hR; clear hc; (try simp [hd]); go_simp; exact next_same _ rfl rfl hR)
                  | (refine ⟨fun _ => ?_, fun hX => ?_⟩; rotate_left; (focus simp [hd] at hX); (try simp [hd]); go_simp; go_at_call 40; refine (CM.out wx).mono ?_; rintro e w2 ⟨rfl, hb⟩; exact next_call _ rfl rfl hR hR.size hb)
                  | (refine ⟨fun _ => ?_, fun hX => ?_⟩; rotate_left; (focus simp [hd] at hX); (try simp [hd]); go_simp; go_at_call 41; refine (CB.out wx).mono ?_; rintro e w2 ⟨rfl, hb⟩; exact next_call _ rfl rfl hR hR.size hb)
                  | (refine ⟨fun _ => ?_, fun hX => ?_⟩; rotate_left; (focus simp [hd] at hX); (try simp [hd]); go_simp; go_at_call 72; refine (CC.out wx).mono ?_; rintro e w2 ⟨rfl, hb⟩; exact next_call _ rfl rfl hR hR.size hb)
              intro x wx hR hx
              simp [AllWords] at hx
              have hlast : x 23 = .bool true := by simp [hx]
              rw [hlast]
              clear hx hlast
              have hc := HBX.out.below hR
              have u0 := hc.get 0 _
              have u1 := hc.get 1 _
              have u2 := hc.get 2 _
              have u3 := hc.get 3 _
              have HBN := Lib.hid (below_trans HB5.out HB5.out.size hR)
              clear hc hR
              have hR0 : R = false := by
                rw [← HRR.out]; unfold rightR
                rw [HK.out, HN.out, if_pos (by simp [badR, hpv, hx, em, eb])]
              go_wp2_with fail
              go_ret
              exact ⟨by first | rfl | rw [hR0], HBN.out⟩
            | true =>
              rw [eb] at CB
              go_upto_region 5 with fail
              rw [← HW5.out]
              refine wp_region_goesG data_follows (fun x => by simp [putsF, Act.put]; rfl) W5.heap.size W5
                [isV (.int .i64 ((j + 1 : Nat) : Int)), isV (.bool true), isV (.bool true), isV (.slice (some ⟨bb, off, none⟩) M c), isV (.int .i64 ((j + 1 : Nat) : Int)), isV (.int .i64 (j : Nat)), isV (.pointer (some ⟨bb, off + j * 4, none⟩)), isV (.agg #[.string p0, .int .u16 p1, .int .u32 p2, .string p3]), isV (.agg #[.string r0, .int .u16 r1, .int .u32 r2, .string r3]), isV (.int .i64 (-1)), isV (.bool false), isV (.bool false), isV (.bool false), isV (.agg #[.string r0, .int .u16 r1, .int .u32 r2, .string r3]), isV (.bool true), isV (.bool false), isV (.bool false), isV (.bool false), isV (.pointer (some ⟨wr.heap.size, 0, none⟩)), isV (.string r0), isV (.string o), isV (.bool true), isV (.bool false), isV (.bool false)]
                (by kernel_rfl) (by kernel_rfl) (by kernel_rfl) rfl ?_ (Below.refl _ _) ?_ ?_
              · repeat (first | exact trivial | refine ⟨isV_stays _, ?_⟩)
              · refine ⟨?_, ?_, ?_, ?_, ?_, ?_, ?_, ?_, ?_, ?_, ?_, ?_, ?_, ?_, ?_, ?_, ?_, ?_, ?_, ?_, ?_, ?_, ?_, ?_, trivial⟩
                all_goals
                  intro x wx hR hd
                  simp at hd
                  first
                  | (refine ⟨fun hX => ?_, fun _ => rfl⟩; simp [hd] at hX; done)
                  | (refine ⟨fun hX => ?_, fun _ => rfl⟩; simp [hd, undef] at hX; done)
                  | (refine ⟨fun _ => ?_, fun hX => ?_⟩; rotate_left; (focus simp [hd] at hX); have hc := HBX.out.below hR; have u0 := hc.get 0 _; have u1 := hc.get 1 _; have u2 := hc.get 2 _; have u3 := hc.get 3 _; obtain ⟨v0, v1, v2, v3⟩ := PV.out wx hR; clear hc; (try simp [hd]); go_simp; exact next_same _ rfl rfl hR)
                  | (refine ⟨fun _ => ?_, fun hX => ?_⟩; rotate_left; (focus simp [hd] at hX); (try simp [hd]); go_simp; go_at_call 40; refine (CM.out wx).mono ?_; rintro e w2 ⟨rfl, hb⟩; exact next_call _ rfl rfl hR hR.size hb)
                  | (refine ⟨fun _ => ?_, fun hX => ?_⟩; rotate_left; (focus simp [hd] at hX); (try simp [hd]); go_simp; go_at_call 41; refine (CB.out wx).mono ?_; rintro e w2 ⟨rfl, hb⟩; exact next_call _ rfl rfl hR hR.size hb)
                  | (refine ⟨fun _ => ?_, fun hX => ?_⟩; rotate_left; (focus simp [hd] at hX); (try simp [hd]); go_simp; go_at_call 72; refine (CC.out wx).mono ?_; rintro e w2 ⟨rfl, hb⟩; exact next_call _ rfl rfl hR hR.size hb)
              intro x wx hR hx
              simp [AllWords] at hx
              have hlast : x 23 = .bool false := by simp [hx]
              rw [hlast]
              clear hx hlast
              have hc := HBX.out.below hR
              have u0 := hc.get 0 _
              have u1 := hc.get 1 _
              have u2 := hc.get 2 _
              have u3 := hc.get 3 _
              have HBN := Lib.hid (below_trans HB5.out HB5.out.size hR)
              clear hc hR
              have HGB : Hid (badR m o (prevOf z (j + 1)) (r0, r1, r2, r3) = (r1 == 6 && !(r0.toList == o.toList))) := Lib.hid (by simp [badR, hpv, hx, em, eb])
              cases e6 : (r1 == 6) with
              | false =>
                rw [HGB.out, e6] at HN
                have HN2 : Hid (scanR m o (prevOf z (j + 1)) s (z.drop (j + 1)) = scanR m o (prevOf z ((j + 1) + 1)) s (z.drop ((j + 1) + 1))) := Lib.hid (by rw [HN.out]; simp [e6])
                go_wp2_with fail
                go_round
                case rel => exact ⟨(j + 1) + 1, s, by omega, by first | rfl | go_num, rfl, by omega, Lib.hid (HK.out.trans HN2.out), HBN⟩
                case measure => simp [intOf]; omega
              | true =>
                cases eo : (r0.toList == o.toList) with
                | true =>
                  rw [HGB.out, e6, eo] at HN
                  have HN2 : Hid (scanR m o (prevOf z (j + 1)) s (z.drop (j + 1)) = scanR m o (prevOf z ((j + 1) + 1)) (s + 1) (z.drop ((j + 1) + 1))) := Lib.hid (by rw [HN.out]; simp [e6])
                  have hw1 : IntKind.i64.wrap ((s : Int) + 1) = ((s + 1 : Nat) : Int) := by rw [IntKind.wrap_i64]; omega
                  go_wp2_with fail
                  go_round
                  case rel => exact ⟨(j + 1) + 1, s + 1, by omega, by first | rfl | go_num, by first | rfl | go_num, by omega, Lib.hid (HK.out.trans HN2.out), HBN⟩
                  case measure => simp [intOf]; omega
                | false =>
                  have hR0 : R = false := by
                    rw [← HRR.out]; unfold rightR
                    rw [HK.out, HN.out, if_pos (by rw [HGB.out, e6, eo]; rfl)]
                  go_wp2_with fail
                  go_ret
                  exact ⟨by first | rfl | rw [hR0], HBN.out⟩
        · go_upto_region 5 with fail
          rw [← HW5.out]
          refine wp_region_goesG data_follows (fun x => by simp [putsF, Act.put]; rfl) W5.heap.size W5
            [isV (.int .i64 ((j + 1 : Nat) : Int)), isV (.bool true), isV (.bool true), isV (.slice (some ⟨bb, off, none⟩) M c), isV (.int .i64 ((j + 1 : Nat) : Int)), isV (.int .i64 (j : Nat)), isV (.pointer (some ⟨bb, off + j * 4, none⟩)), isV (.agg #[.string p0, .int .u16 p1, .int .u32 p2, .string p3]), isV (.agg #[.string r0, .int .u16 r1, .int .u32 r2, .string r3]), isV (.int .i64 (0)), isV (.bool true), isV (.bool true), isV (.bool true), isV undef, isV undef, isV undef, isV (.bool true), isV (.bool true), isV undef, isV undef, isV undef, isV undef, isV undef, isV (.bool true)]
            (by kernel_rfl) (by kernel_rfl) (by kernel_rfl) rfl ?_ (Below.refl _ _) ?_ ?_
          · repeat (first | exact trivial | refine ⟨isV_stays _, ?_⟩)
          · refine ⟨?_, ?_, ?_, ?_, ?_, ?_, ?_, ?_, ?_, ?_, ?_, ?_, ?_, ?_, ?_, ?_, ?_, ?_, ?_, ?_, ?_, ?_, ?_, ?_, trivial⟩
            all_goals
              intro x wx hR hd
              simp at hd
              first
              | (refine ⟨fun hX => ?_, fun _ => rfl⟩; simp [hd] at hX; done)
              | (refine ⟨fun hX => ?_, fun _ => rfl⟩; simp [hd, undef] at hX; done)
              | (refine ⟨fun _ => ?_, fun hX => ?_⟩; rotate_left; (focus simp [hd] at hX); have hc := HBX.out.below hR; have u0 := hc.get 0 _; have u1 := hc.get 1 _; have u2 := hc.get 2 _; have u3 := hc.get 3 _; obtain ⟨v0, v1, v2, v3⟩ := PV.out wx hR; clear hc; (try simp [hd]); go_simp; exact next_same _ rfl rfl hR)
              | (refine ⟨fun _ => ?_, fun hX => ?_⟩; rotate_left; (focus simp [hd] at hX); (try simp [hd]); go_simp; go_at_call 40; refine (CM.out wx).mono ?_; rintro e w2 ⟨rfl, hb⟩; exact next_call _ rfl rfl hR hR.size hb)
              | (refine ⟨fun _ => ?_, fun hX => ?_⟩; rotate_left; (focus simp [hd] at hX); (try simp [hd]); go_simp; go_at_call 41; refine (CB.out wx).mono ?_; rintro e w2 ⟨rfl, hb⟩; exact next_call _ rfl rfl hR hR.size hb)
              | (refine ⟨fun _ => ?_, fun hX => ?_⟩; rotate_left; (focus simp [hd] at hX); (try simp [hd]); go_simp; go_at_call 72; refine (CC.out wx).mono ?_; rintro e w2 ⟨rfl, hb⟩; exact next_call _ rfl rfl hR hR.size hb)
          intro x wx hR hx
          simp [AllWords] at hx
          have hlast : x 23 = .bool true := by simp [hx]
          rw [hlast]
          clear hx hlast
          have hc := HBX.out.below hR
          have u0 := hc.get 0 _
          have u1 := hc.get 1 _
          have u2 := hc.get 2 _
          have u3 := hc.get 3 _
          have HBN := Lib.hid (below_trans HB5.out HB5.out.size hR)
          clear hc hR
          have hR0 : R = false := by
            rw [← HRR.out]; unfold rightR
            rw [HK.out, HN.out, if_pos (by simp [badR, hpv, hx])]
          go_wp2_with fail
          go_ret
          exact ⟨by first | rfl | rw [hR0], HBN.out⟩
        · go_upto_region 5 with fail
          rw [← HW5.out]
          refine wp_region_goesG data_follows (fun x => by simp [putsF, Act.put]; rfl) W5.heap.size W5
            [isV (.int .i64 ((j + 1 : Nat) : Int)), isV (.bool true), isV (.bool true), isV (.slice (some ⟨bb, off, none⟩) M c), isV (.int .i64 ((j + 1 : Nat) : Int)), isV (.int .i64 (j : Nat)), isV (.pointer (some ⟨bb, off + j * 4, none⟩)), isV (.agg #[.string p0, .int .u16 p1, .int .u32 p2, .string p3]), isV (.agg #[.string r0, .int .u16 r1, .int .u32 r2, .string r3]), isV (.int .i64 (1)), isV (.bool true), isV (.bool true), isV (.bool true), isV undef, isV undef, isV undef, isV (.bool true), isV (.bool true), isV undef, isV undef, isV undef, isV undef, isV undef, isV (.bool true)]
            (by kernel_rfl) (by kernel_rfl) (by kernel_rfl) rfl ?_ (Below.refl _ _) ?_ ?_
          · repeat (first | exact trivial | refine ⟨isV_stays _, ?_⟩)
          · refine ⟨?_, ?_, ?_, ?_, ?_, ?_, ?_, ?_, ?_, ?_, ?_, ?_, ?_, ?_, ?_, ?_, ?_, ?_, ?_, ?_, ?_, ?_, ?_, ?_, trivial⟩
            all_goals
              intro x wx hR hd
              simp at hd
              first
              | (refine ⟨fun hX => ?_, fun _ => rfl⟩; simp [hd] at hX; done)
              | (refine ⟨fun hX => ?_, fun _ => rfl⟩; simp [hd, undef] at hX; done)
              | (refine ⟨fun _ => ?_, fun hX => ?_⟩; rotate_left; (focus simp [hd] at hX); have hc := HBX.out.below hR; have u0 := hc.get 0 _; have u1 := hc.get 1 _; have u2 := hc.get 2 _; have u3 := hc.get 3 _; obtain ⟨v0, v1, v2, v3⟩ := PV.out wx hR; clear hc; (try simp [hd]); go_simp; exact next_same _ rfl rfl hR)
              | (refine ⟨fun _ => ?_, fun hX => ?_⟩; rotate_left; (focus simp [hd] at hX); (try simp [hd]); go_simp; go_at_call 40; refine (CM.out wx).mono ?_; rintro e w2 ⟨rfl, hb⟩; exact next_call _ rfl rfl hR hR.size hb)
              | (refine ⟨fun _ => ?_, fun hX => ?_⟩; rotate_left; (focus simp [hd] at hX); (try simp [hd]); go_simp; go_at_call 41; refine (CB.out wx).mono ?_; rintro e w2 ⟨rfl, hb⟩; exact next_call _ rfl rfl hR hR.size hb)
              | (refine ⟨fun _ => ?_, fun hX => ?_⟩; rotate_left; (focus simp [hd] at hX); (try simp [hd]); go_simp; go_at_call 72; refine (CC.out wx).mono ?_; rintro e w2 ⟨rfl, hb⟩; exact next_call _ rfl rfl hR hR.size hb)
          intro x wx hR hx
          simp [AllWords] at hx
          have hlast : x 23 = .bool true := by simp [hx]
          rw [hlast]
          clear hx hlast
          have hc := HBX.out.below hR
          have u0 := hc.get 0 _
          have u1 := hc.get 1 _
          have u2 := hc.get 2 _
          have u3 := hc.get 3 _
          have HBN := Lib.hid (below_trans HB5.out HB5.out.size hR)
          clear hc hR
          have hR0 : R = false := by
            rw [← HRR.out]; unfold rightR
            rw [HK.out, HN.out, if_pos (by simp [badR, hpv, hx])]
          go_wp2_with fail
          go_ret
          exact ⟨by first | rfl | rw [hR0], HBN.out⟩
    · have hlt' : ¬ (k : Int) < M := by omega
      obtain rfl : k = M := by omega
      have hdk : z.drop k = [] := List.drop_eq_nil_of_le (by rw [HL.out]; exact Nat.le_refl _)
      have hfin : R = (s == 1 && fitsR k (sizeR z)) := by
        rw [← HRR.out]; unfold rightR
        rw [HK.out, hdk]
        simp [scanR, fitsR, HL.out]
      have HRW := Lib.hid (H.out.below HB.out)
      clear hdk
      cases e1 : (s == 1) with
      | false =>
        have he1 : ((s : Int) == 1) = false := by simp at e1 ⊢; omega
        rw [e1] at hfin
        go_wp2_with fail
        go_ret
        exact ⟨by first | rfl | (rw [hfin]; rfl), HB.out⟩
      | true =>
        obtain rfl : s = 1 := by simpa using e1
        rw [e1] at hfin
        go_wp2_with fail
        refine (FT.out _ HRW.out).mono ?_
        rintro e w2 ⟨rfl, hb⟩
        have HBF := Lib.hid (below_trans HB.out HB.out.size hb)
        clear hb
        go_wp2_with fail
        go_ret
        exact ⟨by first | rfl | (rw [hfin]; rfl), HBF.out⟩
end Go.Proofs.YtpbbnpglcadimaaDoor
namespace Go.Proofs.YtpbbnpglcadimaaDoor
open Go.RowKit
set_option linter.unusedVariables false
set_option linter.unusedSimpArgs false
set_option maxRecDepth 20000
theorem dataOf_ty10 (q : Nat) (X s : ByteArray) : (dataOf q X s).1 < 65536 := by
  unfold dataOf
  (repeat' split) <;> first | decide | (simp; done) | omega
def fit10 (r : RecT) : Prop := (0 ≤ r.2.1 ∧ r.2.1 < 65536) ∧ r.1.size ≤ 254 ∧ r.2.2.2.size ≤ 100000
theorem fit10_soa (o : ByteArray) (ho : o.size ≤ 254) (n : Nat) : fit10 (soaR o n) := by
  refine ⟨⟨by show (0 : Int) ≤ 6; decide, by show (6 : Int) < 65536; decide⟩, ho, ?_⟩
  have hl := nameZ_len [] (by simp)
  show (soaD n).size ≤ 100000
  unfold soaD
  rw [mk_size, dataL_len9]
  simp
  omega
theorem fit10_rec (a : ActT) : fit10 (recOf a) := ⟨⟨Int.natCast_nonneg _, by
  have := dataOf_ty10 (a.2.1.toNat % 8) (nmB a.2.2.2.1.2.2.2) (txtB a.2.2.2.2)
  show ((dataOf _ _ _).1 : Int) < 65536
  omega⟩, recOf_name a, Nat.le_trans (recOf_data a) (by decide)⟩
theorem underN_le10 (o s : ByteArray) (ho : o.size ≤ 254) : (underN o s).size ≤ 254 := by
  unfold underN
  split
  · rename_i h
    unfold joinOf at h ⊢
    split
    · rename_i h2
      show (s ++ o).size ≤ 254
      rw [ByteArray.size_append]; exact h2.2.2
    · rename_i h2
      rw [if_neg h2] at h; cases h
  · exact ho
theorem fit10_under (o : ByteArray) (ho : o.size ≤ 254) (s : Bool) (a : ActT) : fit10 (underR o s a) := by
  have h := fit10_rec a
  unfold underR
  split
  · split
    · exact fit10_soa o ho _
    · exact ⟨⟨by show (0 : Int) ≤ 16; decide, by show (16 : Int) < 65536; decide⟩, ho, by show (ByteArray.mk #[1, 120]).size ≤ 100000; decide⟩
  · exact ⟨h.1, underN_le10 o _ ho, h.2.2⟩
theorem fit10_unders (o : ByteArray) (ho : o.size ≤ 254) (s : Bool) (ds : List ActT) (most : Nat) : ∀ r ∈ undersOf o s ds most, fit10 r := by
  intro r hr
  unfold undersOf at hr
  obtain ⟨a, -, rfl⟩ := List.mem_map.1 hr
  exact fit10_under o ho s a
theorem sizeR_fit : ∀ (z : List RecT), (∀ r ∈ z, fit10 r) → sizeR z ≤ z.length * 100264
  | [], _ => by simp [sizeR]
  | r :: z, h => by
    have h1 := sizeR_fit z (fun q hq => h q (by simp [hq]))
    have h2 := h r (by simp)
    have e : sizeR (r :: z) = (10 + r.1.size + r.2.2.2.size) + sizeR z := by simp [sizeR]
    rw [e, List.length_cons]
    have := h2.2.1; have := h2.2.2
    omega
theorem may10 : ∃ m : RecT → Bool, ∀ r, fit10 r → ∀ w, Calls Tryd.prog 40 #[recV r] w fun e w' => e = .returned (.bool (m r)) ∧ Below w.heap.size w w' := by
  have key : ∀ r : RecT, ∃ q : Bool, fit10 r → ∀ w, Calls Tryd.prog 40 #[recV r] w fun e w' => e = .returned (.bool q) ∧ Below w.heap.size w w' := fun r => by
    by_cases h : fit10 r
    · obtain ⟨q, hq⟩ := mayrec_any r h.1 (Nat.le_trans h.2.1 (by decide)) h.2.2
      exact ⟨q, fun _ => hq⟩
    · exact ⟨false, fun h' => absurd h' h⟩
  exact ⟨fun r => Classical.choose (key r), fun r => Classical.choose_spec (key r)⟩
/-- The error of a zone that was made: 0, if there is none. -/
def checkR (m : RecT → Bool) (o : ByteArray) (z : List RecT) : Nat := if fitsR z.length (sizeR z) = true then (if rightR m o z = true then 0 else 4) else 8
/-- What check leaves. -/
def CheckA (v : Value) (k : Nat) (w : World) (e : Ending) (w' : World) : Prop :=
  Below w.heap.size w w' ∧ ((k = 0 ∧ e = .returned (.tuple #[v, .nilIface])) ∨ (k ≠ 0 ∧ e = .returned (.tuple #[.slice none 0 0, errV (k : Int)])))
section
variable (m : RecT → Bool) (o : ByteArray) (A : Option Addr) (n c : Nat) (z : List RecT) (w : World) (h : Recs w A z) (hl : z.length = n) (hn : n ≤ 1000) (ho : o.size ≤ 100000) (hf : ∀ r ∈ z, fit10 r)
  (hm : ∀ r, fit10 r → ∀ w, Calls Tryd.prog 40 #[recV r] w fun e w' => e = .returned (.bool (m r)) ∧ Below w.heap.size w w')
set_option maxHeartbeats 1600000 in
include h hl hn ho hf hm in
theorem check_any : Calls Tryd.prog 33 #[.string o, .slice A n c] w (CheckA (.slice A n c) (checkR m o z) w) := by
  have hs : sizeR z ≤ 1000000000000 := Nat.le_trans (sizeR_fit z hf) (by omega)
  have FT := Lib.hid (fun w h => fits_any A n c z w h hl (by unfold maxLen; omega) hs)
  have RT := Lib.hid (fun w h => right_any m o A n c z w h hl hn hs ho (fun r hr => (hf r hr).2.1) (fun r hr => hm r (hf r hr)))
  have H := Lib.hid h
  have HK : Hid (checkR m o z = if fitsR n (sizeR z) = true then (if rightR m o z = true then 0 else 4) else 8) := Lib.hid (by unfold checkR; rw [hl])
  obtain ⟨q, hq⟩ : ∃ q, fitsR n (sizeR z) = q := ⟨_, rfl⟩
  obtain ⟨p, hp⟩ : ∃ p, rightR m o z = p := ⟨_, rfl⟩
  rw [hq] at FT HK
  rw [hp] at RT HK
  generalize checkR m o z = K at *
  obtain ⟨AR, hAR⟩ : ∃ R, R = CheckA (.slice A n c) K w := ⟨_, rfl⟩
  rw [← hAR]
  have HA0 : Hid (K = 0 → ∀ w', Below w.heap.size w w' → AR (.returned (.tuple #[.slice A n c, .nilIface])) w') := Lib.hid (fun hk w' hb => by rw [hAR]; exact ⟨hb, .inl ⟨hk, rfl⟩⟩)
  have HA1 : Hid (∀ k : Nat, K = k → k ≠ 0 → ∀ w', Below w.heap.size w w' → AR (.returned (.tuple #[.slice none 0 0, errV (k : Int)])) w') := Lib.hid (fun k hk h0 w' hb => by rw [hAR]; exact ⟨hb, .inr ⟨by rw [hk]; exact h0, by rw [hk]⟩⟩)
  clear hAR
  clear h hl hf hm hs hq hp
  go_enter Tryd.func33, Tryd.ntmps33
  go_wp2_with fail
  refine (FT.out w H.out).mono ?_
  rintro e w1 ⟨rfl, hb1⟩
  have HB1 := Lib.hid hb1
  clear hb1
  cases q with
  | false =>
    have hk : K = 8 := HK.out
    have HKK := Lib.hid hk
    clear hk
    go_wp2_with fail
    exact HA1.out 8 HKK.out (by decide) _ HB1.out
  | true =>
    go_wp2_with fail
    refine (RT.out w1 (H.out.below HB1.out)).mono ?_
    rintro e w2 ⟨rfl, hb2⟩
    have HB2 := Lib.hid (below_trans HB1.out HB1.out.size hb2)
    clear hb2
    cases p with
    | false =>
      have hk : K = 4 := HK.out
      have HKK := Lib.hid hk
      clear hk
      go_wp2_with fail
      exact HA1.out 4 HKK.out (by decide) _ HB2.out
    | true =>
      have hk : K = 0 := HK.out
      have HKK := Lib.hid hk
      clear hk
      go_wp2_with fail
      exact HA0.out HKK.out _ HB2.out
end
end Go.Proofs.YtpbbnpglcadimaaDoor
namespace Go.Proofs.YtpbbnpglcadimaaDoor
open Go.RowKit
set_option linter.unusedVariables false
set_option linter.unusedSimpArgs false
set_option maxRecDepth 20000
open Classical in
/-- What may be data of a type. -/
noncomputable def mayD (t : Int) (d : ByteArray) : Bool :=
  if t = 1 then decide (d.size = 4) else if t = 28 then decide (d.size = 16) else if t = 2 ∨ t = 5 then (labelsOf d).isSome else if t = 6 then decide (∃ a b t, IsSoa d.data.toList a b t)
  else if t = 16 then (if d.size ≤ 512 then decide (d.size ≠ 0) && decide (runT d d.size = d.size) else false) else decide (d.size ≤ 512)
set_option maxHeartbeats 3200000 in
theorem cutSoa_iff (s : ByteArray) (hs : s.size ≤ 100000) : ∀ w, Calls Tryd.prog 77 #[.string s] w fun e w' => (∃ a b c q, e = .returned (.tuple #[a, b, c, .bool q]) ∧ (q = true ↔ ∃ a b t, IsSoa s.data.toList a b t)) ∧ Below w.heap.size w w' := by
  intro w
  have HC := Lib.hid (fun w => cutp_any s w (by omega))
  go_enter Tryd.func77, Tryd.ntmps77
  go_wp2_with fail
  refine (HC.out w).mono ?_
  rintro e w1 ⟨hb1, ⟨n, t, hnt, rfl⟩ | ⟨hno, rfl⟩⟩
  · have HB1 := Lib.hid hb1
    have HNT := Lib.hid hnt
    have htl : t.length ≤ 100000 := by have := congrArg List.length hnt.2; simp at this; omega
    have HC2 := Lib.hid (fun w => cutp_any ⟨t.toArray⟩ w (by show t.toArray.size ≤ _; simp; omega))
    clear hb1 hnt
    rw [show sv t = .string ⟨t.toArray⟩ from rfl]
    go_wp2_with fail
    refine (HC2.out w1).mono ?_
    rintro e w2 ⟨hb2, ⟨n2, t2, hnt2, rfl⟩ | ⟨hno, rfl⟩⟩
    · have hnt2' : IsCut t n2 t2 := by simpa using hnt2
      have HB2 := Lib.hid (below_trans HB1.out HB1.out.size hb2)
      have HNT2 := Lib.hid hnt2'
      have htl2 : t2.length ≤ 100000 := by have := congrArg List.length hnt2'.2; simp at this; omega
      clear hb2 hnt2 hnt2'
      obtain ⟨T, hT⟩ : ∃ T : ByteArray, T = ⟨t2.toArray⟩ := ⟨_, rfl⟩
      have hTs : T.size = t2.length := by rw [hT]; simp [ByteArray.size]
      rw [show sv t2 = .string ⟨t2.toArray⟩ from rfl, ← hT]
      by_cases h20 : T.size = 20
      · have heq : ((T.size : Int) != 20) = false := by simp [h20]
        go_wp2_with fail
        refine bodyPost_ret (v := .tuple #[sv n, sv n2, .string T, .bool true]) (by simp [results, Tryd.results77, go_sem, hT]) rfl ?_
        exact ⟨⟨_, _, _, _, rfl, by simp; exact ⟨n, n2, t2, by have h := HNT.out; have h2 := HNT2.out; exact ⟨⟨h.1, by rw [h.2, h2.2]⟩, h2.1, by omega⟩⟩⟩, HB2.out⟩
      · have heq : ((T.size : Int) != 20) = true := by simp; omega
        go_wp2_with fail
        refine bodyPost_ret (v := .tuple #[.string ⟨#[]⟩, .string ⟨#[]⟩, .string ⟨#[]⟩, .bool false]) (by simp [results, Tryd.results77, go_sem]) rfl ?_
        refine ⟨⟨_, _, _, _, rfl, by
          simp
          intro a b t' hh
          have h1 := At.one hh.1 HNT.out
          have h2 := At.one (show IsCut t b t' from ⟨hh.2.1, h1.2.symm⟩) HNT2.out
          have := hh.2.2
          rw [h2.2] at this
          omega⟩, HB2.out⟩
    · have hno' : ∀ n2 t2, ¬ IsCut t n2 t2 := by simpa using hno
      have HB2 := Lib.hid (below_trans HB1.out HB1.out.size hb2)
      have HNO := Lib.hid hno'
      clear hb2 hno hno'
      go_wp2_with fail
      refine bodyPost_ret (v := .tuple #[.string ⟨#[]⟩, .string ⟨#[]⟩, .string ⟨#[]⟩, .bool false]) (by simp [results, Tryd.results77, go_sem]) rfl ?_
      refine ⟨⟨_, _, _, _, rfl, by
        simp
        intro a b t' hh
        have h1 := At.one hh.1 HNT.out
        exact HNO.out b t' ⟨hh.2.1, h1.2.symm⟩⟩, HB2.out⟩
  · have HB1 := Lib.hid hb1
    have HNO := Lib.hid hno
    clear hb1 hno
    go_wp2_with fail
    refine bodyPost_ret (v := .tuple #[.string ⟨#[]⟩, .string ⟨#[]⟩, .string ⟨#[]⟩, .bool false]) (by simp [results, Tryd.results77, go_sem]) rfl ?_
    exact ⟨⟨_, _, _, _, rfl, by simp; intro a b t' hh; exact HNO.out _ _ hh.1⟩, HB1.out⟩
theorem cutSoa_is (s : ByteArray) (hs : s.size ≤ 100000) : ∃ q : Bool, q = mayD 6 s ∧ ∀ w, Calls Tryd.prog 77 #[.string s] w fun e w' => (∃ a b c, e = .returned (.tuple #[a, b, c, .bool q])) ∧ Below w.heap.size w w' := by
  refine ⟨mayD 6 s, rfl, fun w => (cutSoa_iff s hs w).mono ?_⟩
  rintro e w' ⟨⟨a, b, c, q, rfl, hq⟩, hb⟩
  have : q = mayD 6 s := by
    unfold mayD
    rw [if_neg (by decide), if_neg (by decide), if_neg (by decide), if_pos rfl]
    cases q with
    | true => classical exact (decide_eq_true (hq.1 rfl)).symm
    | false => classical exact (decide_eq_false (fun h => by have := hq.2 h; cases this)).symm
  rw [← this]
  exact ⟨⟨a, b, c, rfl⟩, hb⟩
set_option maxHeartbeats 3200000 in
theorem rmay_is (t : Int) (ht : 0 ≤ t ∧ t < 65536) (d : ByteArray) (hd : d.size ≤ 100000) : ∀ w, Calls Tryd.prog 61 #[.int .u16 t, .string d] w fun e w' => e = .returned (.bool (mayD t d)) ∧ Below w.heap.size w w' := by
  suffices h : ∃ q : Bool, q = mayD t d ∧ ∀ w, Calls Tryd.prog 61 #[.int .u16 t, .string d] w fun e w' => e = .returned (.bool q) ∧ Below w.heap.size w w' by
    obtain ⟨q, rfl, h⟩ := h
    exact h
  by_cases h1 : t = 1
  · subst h1
    refine ⟨decide (d.size = 4), rfl, fun w => ?_⟩
    have heq : ((d.size : Int) == 4) = decide (d.size = 4) := by by_cases h : d.size = 4 <;> simp [h]; omega
    go_enter Tryd.func61, Tryd.ntmps61
    go_wp2_with fail
    go_ret
    exact ⟨rfl, Below.refl _ _⟩
  have e1 : (t == 1) = false := by simp; omega
  by_cases h28 : t = 28
  · subst h28
    refine ⟨decide (d.size = 16), rfl, fun w => ?_⟩
    have heq : ((d.size : Int) == 16) = decide (d.size = 16) := by by_cases h : d.size = 16 <;> simp [h]; omega
    go_enter Tryd.func61, Tryd.ntmps61
    go_wp2_with fail
    go_ret
    exact ⟨rfl, Below.refl _ _⟩
  have e28 : (t == 28) = false := by simp; omega
  by_cases h2 : t = 2
  · subst h2
    refine ⟨(labelsOf d).isSome, rfl, fun w => ?_⟩
    have HM := Lib.hid (fun w => may_any d w (by unfold maxLen; omega))
    go_enter Tryd.func61, Tryd.ntmps61
    go_wp2_with fail
    refine (HM.out w).mono ?_
    rintro e w1 ⟨rfl, hb⟩
    go_wp2_with fail
    go_ret
    exact ⟨rfl, hb⟩
  have e2 : (t == 2) = false := by simp; omega
  by_cases h5 : t = 5
  · subst h5
    refine ⟨(labelsOf d).isSome, rfl, fun w => ?_⟩
    have HM := Lib.hid (fun w => may_any d w (by unfold maxLen; omega))
    go_enter Tryd.func61, Tryd.ntmps61
    go_wp2_with fail
    refine (HM.out w).mono ?_
    rintro e w1 ⟨rfl, hb⟩
    go_wp2_with fail
    go_ret
    exact ⟨rfl, hb⟩
  have e5 : (t == 5) = false := by simp; omega
  by_cases h6 : t = 6
  · subst h6
    obtain ⟨q, hqd, hq⟩ := cutSoa_is d hd
    refine ⟨q, hqd, fun w => ?_⟩
    clear hqd
    have HM := Lib.hid hq
    clear hq
    go_enter Tryd.func61, Tryd.ntmps61
    go_wp2_with fail
    refine (HM.out w).mono ?_
    rintro e w1 ⟨⟨a, b, c, rfl⟩, hb⟩
    go_wp2_with fail
    go_ret
    exact ⟨rfl, hb⟩
  have e6 : (t == 6) = false := by simp; omega
  by_cases h16 : t = 16
  · subst h16
    by_cases hl : d.size ≤ 512
    · refine ⟨decide (d.size ≠ 0) && decide (runT d d.size = d.size), by show _ = mayD 16 d; unfold mayD; simp [hl], fun w => ?_⟩
      have HM := Lib.hid (fun w => texts_any d w hl)
      obtain ⟨Q, hQ⟩ : ∃ Q, (decide (d.size ≠ 0) && decide (runT d d.size = d.size)) = Q := ⟨_, rfl⟩
      rw [hQ] at HM ⊢
      clear hQ
      have hl' : (d.size : Int) ≤ 512 := by omega
      go_enter Tryd.func61, Tryd.ntmps61
      go_wp2_with fail
      refine (HM.out w).mono ?_
      rintro e w1 ⟨rfl, hb⟩
      go_wp2_with fail
      go_ret
      exact ⟨rfl, hb⟩
    · refine ⟨false, by show _ = mayD 16 d; unfold mayD; simp [hl], fun w => ?_⟩
      have hl' : ¬ (d.size : Int) ≤ 512 := by omega
      have hl2 : (512 : Int) < d.size := by omega
      go_enter Tryd.func61, Tryd.ntmps61
      go_wp2_with fail
      go_ret
      exact ⟨rfl, Below.refl _ _⟩
  have e16 : (t == 16) = false := by simp; omega
  refine ⟨decide (d.size ≤ 512), by unfold mayD; rw [if_neg h1, if_neg h28, if_neg (by omega), if_neg h6, if_neg h16], fun w => ?_⟩
  have heq : decide ((d.size : Int) ≤ 512) = decide (d.size ≤ 512) := by by_cases h : d.size ≤ 512 <;> simp [h] <;> omega
  go_enter Tryd.func61, Tryd.ntmps61
  go_wp2_with fail
  go_ret
  exact ⟨rfl, Below.refl _ _⟩
/-- Which record may be in a message. -/
noncomputable def mayR (r : RecT) : Bool := (labelsOf r.1).isSome && ((r.2.1 != 41) && mayD r.2.1 r.2.2.2)
set_option maxHeartbeats 1600000 in
theorem mayrec_is (r : RecT) (ht : 0 ≤ r.2.1 ∧ r.2.1 < 65536) (hn : r.1.size ≤ 100000) (hd : r.2.2.2.size ≤ 100000) : ∀ w, Calls Tryd.prog 40 #[recV r] w fun e w' => e = .returned (.bool (mayR r)) ∧ Below w.heap.size w w' := by
  suffices h : ∃ q : Bool, q = mayR r ∧ ∀ w, Calls Tryd.prog 40 #[recV r] w fun e w' => e = .returned (.bool q) ∧ Below w.heap.size w w' by
    obtain ⟨q, rfl, h⟩ := h
    exact h
  obtain ⟨m, hm⟩ : ∃ m, (labelsOf r.1).isSome = m := ⟨_, rfl⟩
  have HM := Lib.hid (fun w => may_any r.1 w (by unfold maxLen; omega))
  rw [hm] at HM
  have hmr : mayR r = (m && ((r.2.1 != 41) && mayD r.2.1 r.2.2.2)) := by unfold mayR; rw [hm]
  have HMR := Lib.hid hmr
  clear hm hmr
  unfold recV
  cases m with
  | false =>
    refine ⟨false, by rw [HMR.out]; rfl, fun w => ?_⟩
    go_enter Tryd.func40, Tryd.ntmps40
    go_wp2_with fail
    refine (HM.out _).mono ?_
    rintro e w1 ⟨rfl, hb⟩
    have HB := Lib.hid (below_alloc _ (Below.refl _ _) (Nat.le_refl _) hb)
    clear hb
    go_wp2_with fail
    go_ret
    exact ⟨rfl, HB.out⟩
  | true =>
    by_cases h41 : r.2.1 = 41
    · have e41 : (r.2.1 != 41) = false := by simp [h41]
      clear h41
      refine ⟨false, by rw [HMR.out, e41]; rfl, fun w => ?_⟩
      go_enter Tryd.func40, Tryd.ntmps40
      go_wp2_with fail
      refine (HM.out _).mono ?_
      rintro e w1 ⟨rfl, hb⟩
      have hc := (Cs.new w #[.string r.1, .int .u16 r.2.1, .int .u32 r.2.2.1, .string r.2.2.2] 41 [.string r.1, .int .u16 r.2.1, .int .u32 r.2.2.1, .string r.2.2.2]).below hb
      have c1 := hc.get 1 _
      have c3 := hc.get 3 _
      have HB := Lib.hid (below_alloc _ (Below.refl _ _) (Nat.le_refl _) hb)
      clear hb hc
      go_wp2_with fail
      go_ret
      exact ⟨rfl, HB.out⟩
    · have e41 : (r.2.1 != 41) = true := by simp [h41]
      have hq := rmay_is r.2.1 ht r.2.2.2 hd
      have hmr := HMR.out
      rw [e41] at hmr
      generalize mayD r.2.1 r.2.2.2 = q at *
      have HQ := Lib.hid hq
      have HMR2 := Lib.hid hmr
      clear hq HMR hmr
      refine ⟨q, by rw [HMR2.out]; simp, fun w => ?_⟩
      go_enter Tryd.func40, Tryd.ntmps40
      go_wp2_with fail
      refine (HM.out _).mono ?_
      rintro e w1 ⟨rfl, hb⟩
      have hc := (Cs.new w #[.string r.1, .int .u16 r.2.1, .int .u32 r.2.2.1, .string r.2.2.2] 41 [.string r.1, .int .u16 r.2.1, .int .u32 r.2.2.1, .string r.2.2.2]).below hb
      have c1 := hc.get 1 _
      have c3 := hc.get 3 _
      have HB := Lib.hid (below_alloc _ (Below.refl _ _) (Nat.le_refl _) hb)
      clear hb hc
      go_wp2_with fail
      refine (HQ.out w1).mono ?_
      rintro e w2 ⟨rfl, hb2⟩
      have HB2 := Lib.hid (below_trans HB.out HB.out.size hb2)
      clear hb2
      go_wp2_with fail
      go_ret
      exact ⟨rfl, HB2.out⟩
end Go.Proofs.YtpbbnpglcadimaaDoor
namespace Go.Proofs.YtpbbnpglcadimaaDoor
open Go.RowKit
set_option linter.unusedVariables false
set_option linter.unusedSimpArgs false
def le10 (x y : RecT) : Bool := decide (cmpR x y ≤ 0)
def msR (rs : List RecT) : List RecT := rs.mergeSort le10
theorem msR_perm (rs : List RecT) : (msR rs).Perm rs := List.mergeSort_perm rs le10
theorem msR_len (rs : List RecT) : (msR rs).length = rs.length := (msR_perm rs).length_eq
theorem msR_mem {rs : List RecT} {q : RecT} : q ∈ msR rs ↔ q ∈ rs := (msR_perm rs).mem_iff
theorem msR_sorted (rs : List RecT) : (msR rs).Pairwise fun x y => cmpR x y ≤ 0 := by
  have h := List.pairwise_mergeSort (le := le10) (fun a b c h1 h2 => by
    unfold le10 at *
    simp only [decide_eq_true_eq] at *
    exact cmpR_is.trans a b c h1 h2) (fun a b => by
    unfold le10
    have := cmpR_is.swap a b
    simp only [Bool.or_eq_true, decide_eq_true_eq]
    omega) rs
  exact List.Pairwise.imp (fun h => by unfold le10 at h; simpa using h) h
theorem msR_rising {rs : List RecT} (h : ∀ i x y, (msR rs)[i]? = some x → (msR rs)[i + 1]? = some y → x ≠ y) : Rising (msR rs) := by
  refine List.pairwise_iff_getElem.2 (fun i j hi hj hij => ?_)
  have hs := List.pairwise_iff_getElem.1 (msR_sorted rs)
  have h1 : (msR rs)[i] ≠ (msR rs)[i + 1] := h i _ _ (List.getElem?_eq_getElem hi) (List.getElem?_eq_getElem (by omega))
  have h2 : cmpR (msR rs)[i] (msR rs)[i + 1] < 0 := by
    have a := hs i (i + 1) hi (by omega) (by omega)
    rcases Int.lt_or_eq_of_le a with a | a
    · exact a
    · exact absurd ((cmpR_is.zero _ _).1 a) h1
  rcases Nat.eq_or_lt_of_le (Nat.succ_le_of_lt hij) with e | e
  · subst e; exact h2
  · exact cmpR_is.lt_of_lt_le h2 (hs (i + 1) j (by omega) hj (by omega))
theorem msR_eq {rs : List RecT} (h : Rising (msR rs)) : msR rs = sortedR rs :=
  rising_ext h (sortedR_rising rs) (fun q => by rw [msR_mem, sortedR_mem])
theorem foldl_full : ∀ (rs out : List RecT), Rising out → (rs.foldl stepS out).length = out.length + rs.length → rs.Nodup ∧ ∀ r ∈ rs, r ∉ out
  | [], out, _, _ => ⟨List.nodup_nil, by simp⟩
  | r :: rs, out, h, hl => by
    have hle := foldl_le rs (stepS out r)
    rw [List.foldl_cons, List.length_cons] at hl
    by_cases hr : r ∈ out
    · rw [stepS_old h hr] at hl hle; omega
    · have e := stepS_new hr
      rw [e] at hl
      obtain ⟨h1, h2⟩ := foldl_full rs (insR out r) (insR_rising h hr) (by rw [insR_len]; omega)
      refine ⟨List.nodup_cons.2 ⟨fun hm => h2 r hm (insR_has _ _), h1⟩, fun q hq => ?_⟩
      rcases List.mem_cons.1 hq with rfl | hq
      · exact hr
      · exact fun ho => h2 q hq (insR_keeps ho)
theorem sortedR_full {rs : List RecT} (h : (sortedR rs).length = rs.length) : rs.Nodup := (foldl_full rs [] List.Pairwise.nil (by unfold sortedR at h; simpa using h)).1
theorem msR_twice {rs : List RecT} {i : Nat} {x : RecT} (h1 : (msR rs)[i]? = some x) (h2 : (msR rs)[i + 1]? = some x) : (sortedR rs).length ≠ rs.length := fun hl => by
  have hn := (msR_perm rs).symm.nodup (sortedR_full hl)
  obtain ⟨a1, e1⟩ := List.getElem?_eq_some_iff.1 h1
  obtain ⟨a2, e2⟩ := List.getElem?_eq_some_iff.1 h2
  exact List.pairwise_iff_getElem.1 hn i (i + 1) a1 a2 (by omega) (e1.trans e2.symm)
/-- In the midst of the search for two alike. -/
def apartTo (l : List RecT) (k : Nat) : Prop := ∀ i x y, i + 1 < k → l[i]? = some x → l[i + 1]? = some y → x ≠ y
theorem apartTo_next {l : List RecT} {k : Nat} {x y : RecT} (h : apartTo l k) (hx : l[k - 1]? = some x) (hy : l[k]? = some y) (hne : x ≠ y) : apartTo l (k + 1) := by
  intro i a b hi ha hb
  by_cases e : i + 1 = k
  · subst e
    rw [Nat.add_sub_cancel, ha] at hx
    rw [hb] at hy
    injection hx with hx; injection hy with hy
    subst hx hy
    exact hne
  · exact h i a b (by omega) ha hb
theorem apartTo_all {rs : List RecT} {k : Nat} (h : apartTo (msR rs) k) (hk : rs.length ≤ k) : msR rs = sortedR rs := by
  refine msR_eq (msR_rising (fun i x y hx hy => ?_))
  have h2 := (List.getElem?_eq_some_iff.1 hy).1
  rw [msR_len] at h2
  exact h i x y (by omega) hx hy
end Go.Proofs.YtpbbnpglcadimaaDoor
namespace Go.Proofs.YtpbbnpglcadimaaDoor
open Go.RowKit
set_option linter.unusedVariables false
set_option linter.unusedSimpArgs false
set_option maxRecDepth 20000
theorem mayD_soa (n : Nat) : mayD 6 (soaD n) = true := by
  unfold mayD
  rw [if_neg (by decide), if_neg (by decide), if_neg (by decide), if_pos rfl]
  have h : ∃ a b t, IsSoa (soaD n).data.toList a b t := ⟨_, _, _, by
    show IsSoa (dataL (nameZ []) (nameZ []) [n, 10, 3, 40, 1]).toArray.toList _ _ _
    rw [List.toList_toArray]
    exact isSoa_data (nameZ_may [] (by simp)) (nameZ_may [] (by simp)) rfl⟩
  classical exact decide_eq_true h
theorem mayR_soa (o : ByteArray) (n : Nat) (ho : (labelsOf o).isSome = true) : mayR (soaR o n) = true := by
  unfold mayR soaR
  rw [ho]
  show (true && (((6 : Int) != 41) && mayD 6 (soaD n))) = true
  rw [mayD_soa]; rfl
theorem labelsOf_root : (labelsOf ⟨#[]⟩).isSome = true := by
  have h := nameZ_may [] (by simp)
  decide
theorem mayR_99 (t : Int) (d : ByteArray) (hd : d.size ≤ 512) : mayR (⟨#[]⟩, 99, t, d) = true := by
  unfold mayR
  rw [labelsOf_root]
  show (true && (((99 : Int) != 41) && mayD 99 d)) = true
  unfold mayD
  rw [if_neg (by decide), if_neg (by decide), if_neg (by decide), if_neg (by decide), if_neg (by decide), decide_eq_true hd]; rfl
/-- A name by numbers is one. -/
theorem labelsOf_origin (n : Nat) : (labelsOf (originB n)).isSome = true := by
  have h := nameZ_may [((n % 6 : Nat) : Int)] (by intro z hz; simp at hz; omega)
  exact h
theorem sortedR_nodup {rs : List RecT} (h : rs.Nodup) : (sortedR rs).length = rs.length := by
  have hn := (msR_perm rs).symm.nodup h
  have e : msR rs = sortedR rs := msR_eq (msR_rising (fun i x y hx hy hxy => by
    subst hxy
    obtain ⟨a1, e1⟩ := List.getElem?_eq_some_iff.1 hx
    obtain ⟨a2, e2⟩ := List.getElem?_eq_some_iff.1 hy
    exact List.pairwise_iff_getElem.1 hn i (i + 1) a1 a2 (by omega) (e1.trans e2.symm)))
  rw [← e, msR_len]
end Go.Proofs.YtpbbnpglcadimaaDoor
namespace Go.Proofs.YtpbbnpglcadimaaDoor
open Go.RowKit
set_option linter.unusedVariables false
set_option linter.unusedSimpArgs false
theorem find_unique {z : List RecT} {s : RecT} (hs : s ∈ z) (h6 : isSoaR s = true) (hu : ∀ q ∈ z, isSoaR q = true → q = s) : firstS z = some s := by
  unfold firstS
  cases h : z.find? isSoaR with
  | none => exact absurd h6 (List.find?_eq_none.1 h s hs)
  | some q => rw [hu q (List.mem_of_find?_eq_some h) (List.find?_some h)]
theorem rising_nodup {l : List RecT} (h : Rising l) : l.Nodup := List.Pairwise.imp (fun h => cmp_lt_ne h) h
theorem lessR_mem10 {z : List RecT} {r q : RecT} : q ∈ lessR z r ↔ q ∈ z ∧ q ≠ r := by
  unfold lessR
  rw [List.mem_filter]
  constructor
  · rintro ⟨h1, h2⟩
    exact ⟨h1, fun e => by subst e; rw [(eqB_iff q q).2 rfl] at h2; cases h2⟩
  · rintro ⟨h1, h2⟩
    refine ⟨h1, ?_⟩
    cases e : eqB q r with
    | false => rfl
    | true => exact absurd ((eqB_iff q r).1 e) h2
theorem insR_mem11 {z : List RecT} {r q : RecT} : q ∈ insR z r ↔ q ∈ z ∨ q = r := by
  constructor
  · intro h
    unfold insR at h
    rcases List.mem_append.1 h with h | h
    · exact .inl ((List.takeWhile_sublist _).mem h)
    · rcases List.mem_cons.1 h with h | h
      · exact .inr h
      · exact .inl ((List.dropWhile_sublist _).mem h)
  · rintro (h | rfl)
    · exact insR_keeps h
    · exact insR_has _ _
theorem delAll_mem : ∀ (l z : List RecT), Rising z → l.Nodup → (∀ r ∈ l, r ∈ z) → ∃ z', delAll l z = some z' ∧ Rising z' ∧ ∀ q, q ∈ z' ↔ q ∈ z ∧ q ∉ l
  | [], z, h, _, _ => ⟨z, rfl, h, fun q => by simp⟩
  | r :: l, z, h, hn, hm => by
    have hn := List.nodup_cons.1 hn
    obtain ⟨z', e, h1, h2⟩ := delAll_mem l (lessR z r) (lessR_rising h) hn.2 (fun q hq => lessR_mem10.2 ⟨hm q (by simp [hq]), fun e => hn.1 (by rw [← e]; exact hq)⟩)
    refine ⟨z', ?_, h1, fun q => ?_⟩
    · rw [delAll_cons, (hasB_iff _ _).2 (hm r (by simp)), if_pos rfl, e]
    · rw [h2, lessR_mem10, List.mem_cons]
      constructor
      · rintro ⟨⟨a, b⟩, c⟩; exact ⟨a, fun h => h.elim b c⟩
      · rintro ⟨a, b⟩; exact ⟨⟨a, fun h => b (.inl h)⟩, fun h => b (.inr h)⟩
theorem insAll_mem : ∀ (l z : List RecT), Rising z → l.Nodup → (∀ r ∈ l, r ∉ z) → ∃ z', insAll l z = some z' ∧ Rising z' ∧ ∀ q, q ∈ z' ↔ q ∈ z ∨ q ∈ l
  | [], z, h, _, _ => ⟨z, rfl, h, fun q => by simp⟩
  | r :: l, z, h, hn, hm => by
    have hn := List.nodup_cons.1 hn
    have hr := hm r (by simp)
    obtain ⟨z', e, h1, h2⟩ := insAll_mem l (insR z r) (insR_rising h hr) hn.2 (fun q hq hz => by
      rcases insR_mem11.1 hz with hz | hz
      · exact hm q (by simp [hq]) hz
      · exact hn.1 (by rw [← hz]; exact hq))
    refine ⟨z', ?_, h1, fun q => ?_⟩
    · rw [insAll_cons, hasB_false.2 hr, if_neg (by decide), e]
    · rw [h2, insR_mem11, List.mem_cons]
      constructor
      · rintro ((a | a) | a)
        · exact .inl a
        · exact .inr (.inl a)
        · exact .inr (.inr a)
      · rintro (a | a | a)
        · exact .inl (.inl a)
        · exact .inl (.inr a)
        · exact .inr a
/-- The records that are no SOA. -/
def nosoa (l : List RecT) : List RecT := l.filter fun r => !isSoaR r
theorem nosoa_mem {l : List RecT} {q : RecT} : q ∈ nosoa l ↔ q ∈ l ∧ isSoaR q = false := by
  unfold nosoa; rw [List.mem_filter]; simp
theorem nosoa_le (l : List RecT) : (nosoa l).length ≤ l.length := List.length_filter_le _ _
theorem nosoa_rising {l : List RecT} (h : Rising l) : Rising (nosoa l) := List.Pairwise.sublist List.filter_sublist h
theorem nosoa_yes {l : List RecT} {k : Nat} {r : RecT} (h : l[k]? = some r) (hs : isSoaR r = true) : nosoa (l.take (k + 1)) = nosoa (l.take k) := by
  unfold nosoa; rw [List.take_add_one, h, List.filter_append]; simp [hs]
theorem nosoa_no {l : List RecT} {k : Nat} {r : RecT} (h : l[k]? = some r) (hs : isSoaR r = false) : nosoa (l.take (k + 1)) = nosoa (l.take k) ++ [r] := by
  unfold nosoa; rw [List.take_add_one, h, List.filter_append]; simp [hs]
theorem delta_leads {a b : List RecT} {s1 s2 : RecT} (ha : Rising a) (hb : Rising b) (h1 : s1 ∈ a) (h2 : s2 ∈ b) (t1 : isSoaR s1 = true) (t2 : isSoaR s2 = true)
    (u1 : ∀ q ∈ a, isSoaR q = true → q = s1) (u2 : ∀ q ∈ b, isSoaR q = true → q = s2) (hne : s1 ≠ s2) : apdR a s1 s2 (nosoa (woR a b)) (nosoa (woR b a)) = .inr b := by
  have n1 : s1 ∉ b := fun h => hne (u2 s1 h t1)
  have n2 : s2 ∉ a := fun h => hne (u1 s2 h t2).symm
  unfold apdR
  rw [find_unique h1 t1 u1]
  simp only [eqB_refl10, if_true]
  obtain ⟨z1, e1, r1, m1⟩ := delAll_mem (s1 :: nosoa (woR a b)) a ha
    (List.nodup_cons.2 ⟨(fun h => by rw [nosoa_mem, t1] at h; exact absurd h.2 (by decide)), rising_nodup (nosoa_rising (woR_rising ha))⟩)
    (fun r hr => by
      rcases List.mem_cons.1 hr with rfl | hr
      · exact h1
      · exact (woR_mem.1 (nosoa_mem.1 hr).1).1)
  rw [e1]
  obtain ⟨z2, e2, r2, m2⟩ := insAll_mem (nosoa (woR b a) ++ [s2]) z1 r1
    (List.nodup_append.2 ⟨rising_nodup (nosoa_rising (woR_rising hb)), by simp, fun x hx y hy e => by
      simp at hy; subst hy e
      rw [nosoa_mem, t2] at hx; cases hx.2⟩)
    (fun r hr hz => by
      have hz := ((m1 r).1 hz).1
      rcases List.mem_append.1 hr with hr | hr
      · exact (woR_mem.1 (nosoa_mem.1 hr).1).2 hz
      · simp at hr; subst hr; exact n2 hz)
  simp only [e2]
  congr 1
  refine rising_ext r2 hb (fun q => ?_)
  rw [m2, m1, List.mem_append, List.mem_singleton, nosoa_mem, woR_mem, List.mem_cons, nosoa_mem, woR_mem]
  constructor
  · rintro (⟨qa, hn⟩ | ⟨⟨qb, -⟩, -⟩ | rfl)
    · by_cases hq : q ∈ b
      · exact hq
      · exfalso
        cases hs : isSoaR q with
        | true => exact hn (.inl (u1 q qa hs))
        | false => exact hn (.inr ⟨⟨qa, hq⟩, hs⟩)
    · exact qb
    · exact h2
  · intro qb
    cases hs : isSoaR q with
    | true => exact .inr (.inr (u2 q qb hs))
    | false =>
      by_cases qa : q ∈ a
      · refine .inl ⟨qa, ?_⟩
        rintro (rfl | ⟨⟨-, h⟩, -⟩)
        · rw [t1] at hs; cases hs
        · exact h qb
      · exact .inr (.inl ⟨⟨qb, qa⟩, rfl⟩)
theorem unders_nosoa (o : ByteArray) (ds : List ActT) (most : Nat) : ∀ q ∈ undersOf o false ds most, isSoaR q = false := by
  intro q hq
  unfold undersOf at hq
  obtain ⟨a, -, rfl⟩ := List.mem_map.1 hq
  unfold underR isSoaR
  split
  · rfl
  · rename_i h
    simpa using h
theorem zoneR_soa (o : ByteArray) (n : Nat) (ds : List ActT) (most : Nat) : soaR o n ∈ zoneR o n ds most ∧ ∀ q ∈ zoneR o n ds most, isSoaR q = true → q = soaR o n := by
  unfold zoneR
  refine ⟨by rw [sortedR_mem]; simp, fun q hq hs => ?_⟩
  rw [sortedR_mem, List.mem_append, List.mem_singleton] at hq
  rcases hq with h | h
  · rw [unders_nosoa o ds most q h] at hs; cases hs
  · exact h
theorem back_there (o : ByteArray) (ds ds2 : List ActT) (most : Nat) :
    apdR (zoneR o 1 ds most) (soaR o 1) (soaR o 2) (nosoa (woR (zoneR o 1 ds most) (zoneR o 2 ds2 most))) (nosoa (woR (zoneR o 2 ds2 most) (zoneR o 1 ds most))) = .inr (zoneR o 2 ds2 most) ∧
    apdR (zoneR o 2 ds2 most) (soaR o 2) (soaR o 1) (nosoa (woR (zoneR o 2 ds2 most) (zoneR o 1 ds most))) (nosoa (woR (zoneR o 1 ds most) (zoneR o 2 ds2 most))) = .inr (zoneR o 1 ds most) := by
  have h1 := zoneR_soa o 1 ds most
  have h2 := zoneR_soa o 2 ds2 most
  have hne : soaR o 1 ≠ soaR o 2 := fun e => soaD_ne (by unfold soaR at e; injection e with _ e; injection e with _ e; injection e)
  exact ⟨delta_leads (zoneR_rising _ _ _ _) (zoneR_rising _ _ _ _) h1.1 h2.1 rfl rfl h1.2 h2.2 hne, delta_leads (zoneR_rising _ _ _ _) (zoneR_rising _ _ _ _) h2.1 h1.1 rfl rfl h2.2 h1.2 (fun e => hne e.symm)⟩
end Go.Proofs.YtpbbnpglcadimaaDoor
namespace Go.Proofs.YtpbbnpglcadimaaDoor
open Go.RowKit
set_option linter.unusedVariables false
set_option linter.unusedSimpArgs false
set_option maxRecDepth 20000
theorem scanR_ok (m : RecT → Bool) (o : ByteArray) : ∀ (z : List RecT) (prev : Option RecT) (n : Nat), (∀ p, prev = some p → ∀ r ∈ z, cmpR p r < 0) → Rising z → (∀ r ∈ z, m r = true ∧ (stripOf r.1 o).isSome = true ∧ (r.2.1 = 6 → r.1 = o)) →
    scanR m o prev n z = some (n + (z.filter isSoaR).length)
  | [], _, _, _, _, _ => rfl
  | r :: z, prev, n, hp, hr, hz => by
    obtain ⟨h1, h2, h3⟩ := hz r (by simp)
    have hr := List.pairwise_cons.1 hr
    have hb : badR m o prev r = false := by
      unfold badR
      rw [h1, h2]
      have e2 : (r.2.1 == 6 && !(r.1.toList == o.toList)) = false := by
        by_cases h : r.2.1 = 6
        · rw [h3 h]; simp
        · simp [h]
      rw [e2]
      cases prev with
      | none => rfl
      | some p =>
        have := hp p rfl r (by simp)
        show (decide (0 ≤ cmpR p r) || !true || !true || false) = false
        rw [decide_eq_false (by omega)]; rfl
    unfold scanR
    rw [hb, if_neg (by decide), scanR_ok m o z (some r) _ (fun p hpp q hq => by injection hpp with hpp; subst hpp; exact hr.1 q hq) hr.2 (fun q hq => hz q (by simp [hq]))]
    rw [List.filter_cons]
    unfold isSoaR
    by_cases h : r.2.1 = 6
    · simp [h]; omega
    · simp [h]
theorem one_soa {z : List RecT} {s : RecT} (hz : Rising z) (hs : s ∈ z) (h6 : isSoaR s = true) (hu : ∀ q ∈ z, isSoaR q = true → q = s) : (z.filter isSoaR).length = 1 := by
  have hn : (z.filter isSoaR).Nodup := List.Pairwise.sublist List.filter_sublist (rising_nodup hz)
  have hm : s ∈ z.filter isSoaR := List.mem_filter.2 ⟨hs, h6⟩
  have ha : ∀ q ∈ z.filter isSoaR, q = s := fun q hq => hu q (List.mem_filter.1 hq).1 (List.mem_filter.1 hq).2
  match hf : z.filter isSoaR with
  | [] => rw [hf] at hm; cases hm
  | [a] => rfl
  | a :: b :: l =>
    rw [hf] at hn ha
    have e1 := ha a (by simp)
    have e2 := ha b (by simp)
    exact absurd (e1.trans e2.symm) (fun e => (List.nodup_cons.1 hn).1 (by simp [e]))
/-- They are a zone, but for their sizes. -/
theorem right_ok {m : RecT → Bool} {o : ByteArray} {z : List RecT} {s : RecT} (hr : Rising z) (hs : s ∈ z) (h6 : isSoaR s = true) (hu : ∀ q ∈ z, isSoaR q = true → q = s) (hz : ∀ r ∈ z, m r = true ∧ (stripOf r.1 o).isSome = true ∧ (r.2.1 = 6 → r.1 = o)) :
    rightR m o z = fitsR z.length (sizeR z) := by
  unfold rightR fitsR
  rw [scanR_ok m o z none 0 (fun p h => by cases h) hr hz, one_soa hr hs h6 hu]
  simp
theorem check_ok {m : RecT → Bool} {o : ByteArray} {z : List RecT} {s : RecT} (hr : Rising z) (hs : s ∈ z) (h6 : isSoaR s = true) (hu : ∀ q ∈ z, isSoaR q = true → q = s) (hz : ∀ r ∈ z, m r = true ∧ (stripOf r.1 o).isSome = true ∧ (r.2.1 = 6 → r.1 = o)) :
    checkR m o z = if fitsR z.length (sizeR z) = true then 0 else 8 := by
  unfold checkR
  rw [right_ok hr hs h6 hu hz]
  split <;> simp_all
end Go.Proofs.YtpbbnpglcadimaaDoor
namespace Go.Proofs.YtpbbnpglcadimaaDoor
open Go.RowKit
set_option linter.unusedVariables false
set_option linter.unusedSimpArgs false
set_option maxRecDepth 20000
theorem labels_join10 {s t : ByteArray} {xs ys : List (List UInt8)} (h1 : labelsOf s = some xs) (h2 : labelsOf t = some ys) (h : s.size + t.size ≤ 254) : labelsOf (s ++ t) = some (xs ++ ys) := by
  have a1 := (nameLabels_iff _ _).1 h1
  have a2 := (nameLabels_iff _ _).1 h2
  refine (nameLabels_iff _ _).2 ⟨?_, ?_, ?_⟩
  · simp at a1 a2 ⊢; omega
  · rw [wire_append, ← a1.2.1, ← a2.2.1]; simp
  · intro x hx
    rcases List.mem_append.1 hx with hx | hx
    · exact a1.2.2 x hx
    · exact a2.2.2 x hx
theorem strip_join10 {s t : ByteArray} {xs ys : List (List UInt8)} (h1 : labelsOf s = some xs) (h2 : labelsOf t = some ys) (h : s.size + t.size ≤ 254) : stripOf (s ++ t) t = some (wire xs) := by
  unfold stripOf
  rw [labels_join10 h1 h2 h, h2]
  simp only
  rw [stripL_found (k := xs.length) (by simp) (by simp)]
  simp
theorem strip_self10 {t : ByteArray} {ys : List (List UInt8)} (h2 : labelsOf t = some ys) : (stripOf t t).isSome = true := by
  unfold stripOf
  rw [h2]
  simp only
  rw [stripL_found (k := 0) (by simp) (by simp)]
  rfl
theorem underN_ok {o s : ByteArray} (ho : (labelsOf o).isSome = true) : (labelsOf (underN o s)).isSome = true ∧ (stripOf (underN o s) o).isSome = true := by
  obtain ⟨ys, hy⟩ := Option.isSome_iff_exists.1 ho
  unfold underN
  split
  · rename_i h
    unfold joinOf at h ⊢
    split
    · rename_i h2
      obtain ⟨xs, hx⟩ := Option.isSome_iff_exists.1 h2.1
      show (labelsOf (s ++ o)).isSome = true ∧ (stripOf (s ++ o) o).isSome = true
      rw [labels_join10 hx hy h2.2.2, strip_join10 hx hy h2.2.2]
      exact ⟨rfl, rfl⟩
    · rename_i h2
      rw [if_neg h2] at h; cases h
  · exact ⟨ho, strip_self10 hy⟩
theorem runT_one (s : ByteArray) (hs : s.size ≤ 30) : runT (ByteArray.mk #[UInt8.ofNat s.size] ++ s.extract 0 s.size) (ByteArray.mk #[UInt8.ofNat s.size] ++ s.extract 0 s.size).size = (ByteArray.mk #[UInt8.ofNat s.size] ++ s.extract 0 s.size).size := by
  obtain ⟨d, hd⟩ : ∃ d, d = ByteArray.mk #[UInt8.ofNat s.size] ++ s.extract 0 s.size := ⟨_, rfl⟩
  have hsz : d.size = s.size + 1 := by rw [hd, ByteArray.size_append, ByteArray.size_extract]; show 1 + _ = _; omega
  rw [← hd]
  have h0 : 0 < d.size := by omega
  have hb : (d[0]'h0).toNat = s.size := by
    have : d[0]'h0 = UInt8.ofNat s.size := by
      subst hd
      rw [ByteArray.getElem_append_left (by show 0 < 1; decide)]
      rfl
    rw [this]
    show s.size % 256 = s.size
    omega
  have h1 : runT d 1 = d.size := by
    have := runT_next (s := d) (k := 0) (p := 0) rfl h0
    rw [this, hb]; omega
  have h2 := runT_stays (s := d) (k := 1) (by omega) (d.size - 1)
  rw [show 1 + (d.size - 1) = d.size by omega, h1] at h2
  exact h2
theorem mayD_data (q : Nat) (X s : ByteArray) (hX : (labelsOf X).isSome = true) (hs : s.size ≤ 30) (h6 : (dataOf q X s).1 ≠ 6) : mayD ((dataOf q X s).1 : Nat) (dataOf q X s).2 = true ∧ (dataOf q X s).1 ≠ 41 := by
  unfold dataOf at h6 ⊢
  split
  · refine ⟨?_, by simp⟩
    show mayD 1 _ = true
    unfold mayD
    rw [if_pos rfl]
    refine decide_eq_true ?_
    rw [ByteArray.size_extract, ByteArray.size_append]
    show min 4 (s.size + 4) - 0 = 4
    omega
  · rename_i h1
    rw [if_neg h1] at h6
    split
    · refine ⟨?_, by simp⟩
      show mayD 2 X = true
      unfold mayD
      rw [if_neg (by decide), if_neg (by decide), if_pos (.inl rfl)]; exact hX
    · rename_i h2
      rw [if_neg h2] at h6
      split
      · refine ⟨?_, by simp⟩
        show mayD 5 X = true
        unfold mayD
        rw [if_neg (by decide), if_neg (by decide), if_pos (.inr rfl)]; exact hX
      · rename_i h3
        rw [if_neg h3] at h6
        split
        · rename_i h4
          rw [if_pos h4] at h6
          exact absurd rfl h6
        · rename_i h4
          split
          · refine ⟨?_, by simp⟩
            show mayD 16 _ = true
            have hsz : (ByteArray.mk #[UInt8.ofNat s.size] ++ s.extract 0 s.size).size = s.size + 1 := by rw [ByteArray.size_append, ByteArray.size_extract]; show 1 + _ = _; omega
            unfold mayD
            rw [if_neg (by decide), if_neg (by decide), if_neg (by decide), if_neg (by decide), if_pos rfl, if_pos (by rw [hsz]; omega), decide_eq_true (by rw [hsz]; omega), decide_eq_true (runT_one s hs)]
            rfl
          · split
            · refine ⟨?_, by simp⟩
              show mayD 28 _ = true
              unfold mayD
              rw [if_neg (by decide), if_pos rfl]
              refine decide_eq_true ?_
              rw [ByteArray.size_extract, ByteArray.size_append]
              show min 16 (s.size + 16) - 0 = 16
              omega
            · refine ⟨?_, by simp⟩
              show mayD 99 _ = true
              unfold mayD
              rw [if_neg (by decide), if_neg (by decide), if_neg (by decide), if_neg (by decide), if_neg (by decide)]
              refine decide_eq_true ?_
              rw [ByteArray.size_extract]; omega
theorem under_ok (o : ByteArray) (a : ActT) (ho : (labelsOf o).isSome = true) : mayR (underR o false a) = true ∧ (stripOf (underR o false a).1 o).isSome = true ∧ ((underR o false a).2.1 = 6 → (underR o false a).1 = o) := by
  obtain ⟨ys, hy⟩ := Option.isSome_iff_exists.1 ho
  by_cases h6 : ((recOf a).2.1 == 6) = true
  · have e : underR o false a = (o, 16, a.2.2.1, ⟨#[1, 120]⟩) := by unfold underR; rw [if_pos h6]; rfl
    rw [e]
    refine ⟨?_, strip_self10 hy, fun _ => rfl⟩
    unfold mayR
    rw [ho]
    show (true && (((16 : Int) != 41) && mayD 16 ⟨#[1, 120]⟩)) = true
    have h1 : mayD 16 ⟨#[1, 120]⟩ = true := by
      unfold mayD
      rw [if_neg (by decide), if_neg (by decide), if_neg (by decide), if_neg (by decide), if_pos rfl]
      decide
    rw [h1]; rfl
  · have e : underR o false a = (underN o (recOf a).1, (recOf a).2.1, (recOf a).2.2.1, (recOf a).2.2.2) := by unfold underR; rw [if_neg h6]
    rw [e]
    obtain ⟨hn1, hn2⟩ := underN_ok (s := (recOf a).1) ho
    obtain ⟨LS, hLS, -⟩ := nmB_labels a.2.2.2.1.2.2.2
    have hty : (dataOf (a.2.1.toNat % 8) (nmB a.2.2.2.1.2.2.2) (txtB a.2.2.2.2)).1 ≠ 6 := fun h => h6 (by
      show (((dataOf (a.2.1.toNat % 8) (nmB a.2.2.2.1.2.2.2) (txtB a.2.2.2.2)).1 : Int) == 6) = true
      rw [h]; rfl)
    obtain ⟨hd, h41⟩ := mayD_data (a.2.1.toNat % 8) (nmB a.2.2.2.1.2.2.2) (txtB a.2.2.2.2) (by rw [hLS]; rfl) (txtB_le _) hty
    refine ⟨?_, hn2, fun h => absurd (show ((recOf a).2.1 == 6) = true by rw [show (recOf a).2.1 = 6 from h]; rfl) h6⟩
    unfold mayR
    simp only
    rw [hn1]
    have e41 : ((recOf a).2.1 != 41) = true := by
      show (((dataOf (a.2.1.toNat % 8) (nmB a.2.2.2.1.2.2.2) (txtB a.2.2.2.2)).1 : Int) != 41) = true
      simp; omega
    have em : mayD (recOf a).2.1 (recOf a).2.2.2 = true := hd
    rw [e41, em]; rfl
theorem zone_ok (o : ByteArray) (n : Nat) (ds : List ActT) (most : Nat) (ho : (labelsOf o).isSome = true) : ∀ r ∈ zoneR o n ds most, mayR r = true ∧ (stripOf r.1 o).isSome = true ∧ (r.2.1 = 6 → r.1 = o) := by
  intro r hr
  obtain ⟨ys, hy⟩ := Option.isSome_iff_exists.1 ho
  unfold zoneR at hr
  rw [sortedR_mem, List.mem_append, List.mem_singleton] at hr
  rcases hr with h | rfl
  · unfold undersOf at h
    obtain ⟨a, -, rfl⟩ := List.mem_map.1 h
    exact under_ok o a ho
  · exact ⟨mayR_soa o n ho, strip_self10 hy, fun _ => rfl⟩
/-- A zone of the statements has no error but for its sizes. -/
theorem zone_check (o : ByteArray) (n : Nat) (ds : List ActT) (most : Nat) (ho : (labelsOf o).isSome = true) : checkR mayR o (zoneR o n ds most) = if fitsR (zoneR o n ds most).length (sizeR (zoneR o n ds most)) = true then 0 else 8 :=
  check_ok (s := soaR o n) (zoneR_rising _ _ _ _) (zoneR_soa o n ds most).1 rfl (zoneR_soa o n ds most).2 (zone_ok o n ds most ho)
end Go.Proofs.YtpbbnpglcadimaaDoor
