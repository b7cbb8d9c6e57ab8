/- Texts that walks stand on, one behind the other. -/
import Derived.Test.YtpbbnpglcadimaaDoorMgSA
import Derived.Test.YtpbbnpglcadimaaDoorOb
import Derived.Test.YtpbbnpglcadimaaDoorProg
import Derived.WalkKit
import Derived.LaidEql
import Derived.Stop.Asserts
import Derived.RowKitTokens
import Derived.Test.YtpbbnpglcadimaaDoorReg2
import Derived.Test.YtpbbnpglcadimaaDoorNameC
import Derived.Test.YtpbbnpglcadimaaDoorZonB
import Derived.Outline
import Derived.Test.YtpbbnpglcadimaaDoorView
import Derived.Test.YtpbbnpglcadimaaDoorNameW
import Derived.Test.YtpbbnpglcadimaaDoorCs
import Derived.Test.YtpbbnpglcadimaaDoorRecB
namespace Go.Proofs.YtpbbnpglcadimaaDoor
open Go.RowKit
set_option linter.unusedVariables false
set_option linter.unusedSimpArgs false
set_option maxRecDepth 20000
/-- All go, one behind the other; all come. -/
def delAll : List RecT → List RecT → Option (List RecT)
  | [], z => some z
  | r :: rs, z => if hasB z r = true then delAll rs (lessR z r) else none
def insAll : List RecT → List RecT → Option (List RecT)
  | [], z => some z
  | r :: rs, z => if hasB z r = true then none else insAll rs (insR z r)
/-- A zone behind a delta; or why not. -/
def apdR (z : List RecT) (fr tt : RecT) (gone new : List RecT) : Nat ⊕ List RecT :=
  match firstS z with
  | none => .inl 5
  | some s => if eqB s fr = true then (match delAll (fr :: gone) z with
    | none => .inl 6
    | some z1 => (match insAll (new ++ [tt]) z1 with
      | none => .inl 7
      | some z2 => .inr z2)) else .inl 5
theorem lessR_rising {z : List RecT} {r : RecT} (h : Rising z) : Rising (lessR z r) := List.Pairwise.sublist List.filter_sublist h
theorem delAll_rising : ∀ (l z z' : List RecT), Rising z → delAll l z = some z' → Rising z' ∧ z'.length ≤ z.length
  | [], z, z', h, e => by injection e with e; subst e; exact ⟨h, Nat.le_refl _⟩
  | r :: l, z, z', h, e => by
    unfold delAll at e
    split at e
    · have := delAll_rising l _ z' (lessR_rising (r := r) h) e
      have h2 : (lessR z r).length ≤ z.length := List.length_filter_le _ _
      exact ⟨this.1, by omega⟩
    · cases e
/-- A zone lies at a slice. -/
def ZoneAt (w : World) (v : Value) (z : List RecT) : Prop := ∃ A c, v = .slice A z.length c ∧ RowROk w (A, z.length, c, z) ∧ (A = none → z.length = 0 ∧ c = 0) ∧ z.length ≤ c ∧ c ≤ maxLen
theorem ZoneAt.below {w w' : World} {v : Value} {z : List RecT} (h : ZoneAt w v z) (hb : Below w.heap.size w w') : ZoneAt w' v z := by
  obtain ⟨A, c, e, h1, h2⟩ := h
  exact ⟨A, c, e, h1.below hb, h2⟩
theorem OBM.zone {B : Nat} {W w : World} {v : Value} {z : List RecT} (h : OBM 4 B W v z.length (flatR z) w) : ZoneAt w v z := by
  obtain ⟨A, c, rfl, h1, h2, h3⟩ := h.slice
  exact ⟨A, c, rfl, ⟨h.sl, fun e => (h3 e).1, rfl⟩, h3, h1, h2⟩
theorem ZoneAt.recs {w : World} {A : Option Addr} {n c : Nat} {z : List RecT} (h : ZoneAt w (.slice A n c) z) : Recs w A z ∧ z.length = n := by
  obtain ⟨A', c', e, h1, h2⟩ := h
  injection e with e1 e2 e3
  subst e1 e3
  exact ⟨h1.sl.recs (Nat.le_refl _) rfl, e2.symm⟩
/-- Delete, Insert of a zone. -/
theorem delete_zone {w : World} {v : Value} {z : List RecT} (h : ZoneAt w v z) (r : RecT) (hn : z.length ≤ 100000) (hr : Rising z) :
    Calls Tryd.prog 53 #[v, recV r] w fun e w' => (hasB z r = false ∧ e = .returned (.tuple #[.slice none 0 0, errV 6]) ∧ Below w.heap.size w w') ∨ (hasB z r = true ∧ ∃ v', e = .returned (.tuple #[v', .nilIface]) ∧ OBM 4 w.heap.size w v' (lessR z r).length (flatR (lessR z r)) w') := by
  obtain ⟨A, c, rfl, h1, h2, h3, h4⟩ := h
  cases hq : hasB z r with
  | false =>
    exact (delete_none A z.length c z r w (h1.sl.recs (Nat.le_refl _) rfl) rfl (by unfold maxLen; omega) (hasB_false.1 hq)).mono fun e w' ⟨a, b⟩ => .inl ⟨rfl, a, b⟩
  | true =>
    exact (delete_some A z.length c z r w h1 h3 hn ((hasB_iff _ _).1 hq) hr).mono fun e w' ⟨v', a, b⟩ => .inr ⟨rfl, v', a, b⟩
theorem insert_zone {w : World} {v : Value} {z : List RecT} (h : ZoneAt w v z) (r : RecT) (hn : z.length ≤ 100000) :
    Calls Tryd.prog 54 #[v, recV r] w fun e w' => (hasB z r = true ∧ e = .returned (.tuple #[.slice none 0 0, errV 7]) ∧ Below w.heap.size w w') ∨ (hasB z r = false ∧ ∃ v', e = .returned (.tuple #[v', .nilIface]) ∧ OBM 4 w.heap.size w v' (insR z r).length (flatR (insR z r)) w') := by
  obtain ⟨A, c, rfl, h1, h2, h3, h4⟩ := h
  cases hq : hasB z r with
  | true =>
    exact (insert_old A z.length c z r w (h1.sl.recs (Nat.le_refl _) rfl) rfl (by unfold maxLen; omega) ((hasB_iff _ _).1 hq)).mono fun e w' ⟨a, b⟩ => .inl ⟨rfl, a, b⟩
  | false =>
    refine (insert_new A z.length c z r w h1 h2 h3 h4 hn (hasB_false.1 hq)).mono fun e w' ⟨v', a, b⟩ => .inr ⟨rfl, v', a, ?_⟩
    rw [insR_len]; exact b
/-- What Delta leaves. -/
def ApdA (x : Nat ⊕ List RecT) (w : World) (e : Ending) (w' : World) : Prop :=
  (∃ er : Nat, x = .inl er ∧ e = .returned (.tuple #[.slice none 0 0, errV (er : Int)]) ∧ Below w.heap.size w w') ∨ (∃ z v, x = .inr z ∧ e = .returned (.tuple #[v, .nilIface]) ∧ OBM 4 w.heap.size w v z.length (flatR z) w')
/-- A delta's cells. -/
def dltCells (fr tt : RecT) (vg vn : Value) : List Value := recCells fr ++ recCells tt ++ [vg, vn]
def dltV (fr tt : RecT) (vg vn : Value) : Value := .agg (dltCells fr tt vg vn).toArray
theorem rows_two {w : World} {g : Nat} {a b : RowR} (hC : Cs w g [rowRV a, rowRV b]) : Sl w w.heap.size 1 (some ⟨g, 0, none⟩) 2 ([a, b].map rowRV) := hC.sl
/-- In the midst of what goes: behind k of the list L. -/
structure DelS (w : World) (L z : List RecT) (k : Nat) (v : Value) (zk : List RecT) (wr : World) : Prop where
  zone : ZoneAt wr v zk
  ris : Rising zk
  len : zk.length ≤ z.length
  rest : delAll (L.drop k) zk = delAll L z
  bel : Below w.heap.size w wr
/-- In the midst of what comes. -/
structure InsS (w : World) (L z : List RecT) (k : Nat) (v : Value) (zk : List RecT) (wr : World) : Prop where
  zone : ZoneAt wr v zk
  len : zk.length ≤ z.length + k
  rest : insAll (L.drop k) zk = insAll L z
  bel : Below w.heap.size w wr
  own : 0 < k → OBM 4 w.heap.size w v zk.length (flatR zk) wr
theorem delAll_cons (r : RecT) (rs z : List RecT) : delAll (r :: rs) z = if hasB z r = true then delAll rs (lessR z r) else none := rfl
theorem insAll_cons (r : RecT) (rs z : List RecT) : insAll (r :: rs) z = if hasB z r = true then none else insAll rs (insR z r) := rfl
theorem drop_at {L : List RecT} {k : Nat} {r : RecT} (h : L[k]? = some r) : L.drop k = r :: L.drop (k + 1) := by
  obtain ⟨hk, e⟩ := List.getElem?_eq_some_iff.1 h
  rw [List.drop_eq_getElem_cons hk, e]
theorem concat_two {w : World} {g1 g2 : Nat} {r : RecT} {A : Option Addr} {n c : Nat} {l : List RecT} (h1 : Cs w g1 (recCells r)) (hl : RowROk w (A, n, c, l)) (hn : n ≤ 20000) (h2 : Cs w g2 [.slice (some ⟨g1, 0, none⟩) 1 1, .slice A n c]) :
    Calls Tryd.prog 52 #[.slice (some ⟨g2, 0, none⟩) 2 2] w fun e w' => ∃ v, e = .returned v ∧ OBM 4 w.heap.size w v (r :: l).length (flatR (r :: l)) w' := by
  have h := concatR_any (some ⟨g2, 0, none⟩) 2 2 [(some ⟨g1, 0, none⟩, 1, 1, [r]), (A, n, c, l)] w (by exact h2.sl) (by decide) (by
    intro x hx
    simp only [List.mem_cons, List.not_mem_nil, or_false] at hx
    rcases hx with rfl | rfl
    · exact RowROk.one h1
    · exact hl) (by have := hl.len; simp [allR]; simp at this; omega)
  have e : allR [((some ⟨g1, 0, none⟩ : Option Addr), 1, 1, [r]), (A, n, c, l)] = r :: l := by simp [allR]
  rw [e] at h
  exact h
theorem concat_last {w : World} {g1 g2 : Nat} {r : RecT} {A : Option Addr} {n c : Nat} {l : List RecT} (h1 : Cs w g1 (recCells r)) (hl : RowROk w (A, n, c, l)) (hn : n ≤ 20000) (h2 : Cs w g2 [.slice A n c, .slice (some ⟨g1, 0, none⟩) 1 1]) :
    Calls Tryd.prog 52 #[.slice (some ⟨g2, 0, none⟩) 2 2] w fun e w' => ∃ v, e = .returned v ∧ OBM 4 w.heap.size w v (l ++ [r]).length (flatR (l ++ [r])) w' := by
  have h := concatR_any (some ⟨g2, 0, none⟩) 2 2 [(A, n, c, l), (some ⟨g1, 0, none⟩, 1, 1, [r])] w (by exact h2.sl) (by decide) (by
    intro x hx
    simp only [List.mem_cons, List.not_mem_nil, or_false] at hx
    rcases hx with rfl | rfl
    · exact hl
    · exact RowROk.one h1) (by have := hl.len; simp [allR]; simp at this; omega)
  have e : allR [(A, n, c, l), ((some ⟨g1, 0, none⟩ : Option Addr), 1, 1, [r])] = l ++ [r] := by simp [allR]
  rw [e] at h
  exact h
set_option maxHeartbeats 6400000 in
theorem apd_any (V : Value) (z : List RecT) (fr tt : RecT) (Ag An : Option Addr) (ng cg nn cn : Nat) (gone new : List RecT) (w : World) (hZ : ZoneAt w V z) (hzn : z.length ≤ 10000) (hri : Rising z)
    (hG : RowROk w (Ag, ng, cg, gone)) (hGn : ng ≤ 10000) (hN : RowROk w (An, nn, cn, new)) (hNn : nn ≤ 10000) :
    Calls Tryd.prog 29 #[V, dltV fr tt (.slice Ag ng cg) (.slice An nn cn)] w (ApdA (apdR z fr tt gone new) w) := by
  obtain ⟨AR, hAR⟩ : ∃ R, R = ApdA (apdR z fr tt gone new) w := ⟨_, rfl⟩
  rw [← hAR]
  have HFAIL : Hid (∀ er : Nat, apdR z fr tt gone new = .inl er → ∀ w', Below w.heap.size w w' → AR (.returned (.tuple #[.slice none 0 0, errV (er : Int)])) w') := Lib.hid (fun er h w' hb => by rw [hAR]; exact .inl ⟨er, h, rfl, hb⟩)
  have HOK : Hid (∀ z' v w', apdR z fr tt gone new = .inr z' → OBM 4 w.heap.size w v z'.length (flatR z') w' → AR (.returned (.tuple #[v, .nilIface])) w') := Lib.hid (fun z' v w' h ho => by rw [hAR]; exact .inr ⟨z', v, h, rfl, ho⟩)
  have HZ := Lib.hid hZ
  obtain ⟨AZ, cz, rfl, hz1, hz2, hz3, hz4⟩ := hZ
  have SOA := Lib.hid (fun wx hb => soaz_any AZ z.length cz z wx ((hz1.sl.recs (Nat.le_refl _) rfl).below hb) rfl (by unfold maxLen; omega))
  obtain ⟨n, hn⟩ : ∃ n, n = z.length := ⟨_, rfl⟩
  rw [← hn] at HZ SOA
  rw [← hn]
  have HNZ := Lib.hid hn
  have HZN := Lib.hid hzn
  have HRI := Lib.hid hri
  have HG := Lib.hid hG
  have HN := Lib.hid hN
  have HGN := Lib.hid hGn
  have HNN := Lib.hid hNn
  have HDR : Hid (apdR z fr tt gone new = match firstS z with
    | none => .inl 5
    | some s => if eqB s fr = true then (match delAll (fr :: gone) z with
      | none => .inl 6
      | some z1 => (match insAll (new ++ [tt]) z1 with
        | none => .inl 7
        | some z2 => .inr z2)) else .inl 5) := Lib.hid rfl
  unfold dltV dltCells recCells
  obtain ⟨W, hW⟩ : ∃ W, W = w.alloc (.cells #[.string fr.1, .int .u16 fr.2.1, .int .u32 fr.2.2.1, .string fr.2.2.2, .string tt.1, .int .u16 tt.2.1, .int .u32 tt.2.2.1, .string tt.2.2.2, .slice Ag ng cg, .slice An nn cn] 43) := ⟨_, rfl⟩
  obtain ⟨B, hB⟩ : ∃ B, B = w.heap.size := ⟨_, rfl⟩
  have HC : Hid (Cs W B [.string fr.1, .int .u16 fr.2.1, .int .u32 fr.2.2.1, .string fr.2.2.2, .string tt.1, .int .u16 tt.2.1, .int .u32 tt.2.2.1, .string tt.2.2.2, .slice Ag ng cg, .slice An nn cn]) := Lib.hid (by rw [hW, hB]; exact Cs.new w _ _ _)
  have HBW : Hid (Below w.heap.size w W) := Lib.hid (by rw [hW]; exact (Below.refl _ _).alloc (Nat.le_refl _) _)
  have HW := Lib.hid hW
  have HBB := Lib.hid hB
  clear hAR hz1 hz2 hz3 hz4 hzn hri hG hN hGn hNn hW hB hn
  go_enter Tryd.func29, Tryd.ntmps29
  go_wp2_with fail
  rw [← HW.out, ← HBB.out]
  refine (SOA.out W HBW.out).mono ?_
  rintro e w1 ⟨rfl, hb1⟩
  have HC1 := Lib.hid (HC.out.below hb1)
  have HB1 := Lib.hid (below_trans HBW.out HBW.out.size hb1)
  have c0 := HC1.out.get 0 _
  have c1 := HC1.out.get 1 _
  have c2 := HC1.out.get 2 _
  have c3 := HC1.out.get 3 _
  have hlB := HC1.out.lt
  clear hb1 SOA HC HBW HW
  cases hs : firstS z with
  | none =>
    have hd := HDR.out
    rw [hs] at hd
    have HD := Lib.hid hd
    clear hs hd
    unfold recV zeroR
    go_wp2_with fail
    exact HFAIL.out 5 HD.out _ (HB1.out.alloc HB1.out.size _)
  | some s =>
    have hd := HDR.out
    rw [hs] at hd
    simp only at hd
    obtain ⟨q, hq⟩ : ∃ q, eqB s fr = q := ⟨_, rfl⟩
    have hne : ∀ w, (binOp .neq 41 (recV s) (recV fr)).run Tryd.prog w = .ok (.bool (!q)) w := fun w => by rw [← hq]; exact rec_neq s fr w
    rw [hq] at hd
    unfold recV at hne
    have HD := Lib.hid hd
    clear hs hd hq
    simp only [Option.getD_some, Option.isSome_some]
    unfold recV
    cases q with
    | false =>
      have hd := HD.out
      rw [if_neg (by decide)] at hd
      have HD := Lib.hid hd
      clear hd
      go_wp2_with fail
      exact HFAIL.out 5 HD.out _ (HB1.out.alloc HB1.out.size _)
    | true =>
      have hd := HD.out
      rw [if_pos rfl] at hd
      have HD := Lib.hid hd
      clear hd
      have HB2 := Lib.hid (HB1.out.alloc HB1.out.size (.cells #[.string s.1, .int .u16 s.2.1, .int .u32 s.2.2.1, .string s.2.2.2] 41))
      have HC2 := Lib.hid (HC1.out.alloc (.cells #[.string s.1, .int .u16 s.2.1, .int .u32 s.2.2.1, .string s.2.2.2] 41))
      go_upto_region 5 with fail
      generalize (w1.alloc (.cells #[.string s.1, .int .u16 s.2.1, .int .u32 s.2.2.1, .string s.2.2.2] 41)) = w2 at *
      have d0 := HC2.out.get 0 _
      have d1 := HC2.out.get 1 _
      have d2 := HC2.out.get 2 _
      have d3 := HC2.out.get 3 _
      have d8 := HC2.out.get 8 _
      have hlB2 := HC2.out.lt
      obtain ⟨wc, hwc⟩ : ∃ wc, wc = ((w2.alloc (.cells #[.string fr.1, .int .u16 fr.2.1, .int .u32 fr.2.2.1, .string fr.2.2.2] 41)).alloc (.cells #[.slice (some ⟨w2.heap.size, 0, none⟩) 1 1, .slice Ag ng cg] 27)) := ⟨_, rfl⟩
      have HBC : Hid (Below w2.heap.size w2 wc) := Lib.hid (by rw [hwc]; exact ((Below.refl w2.heap.size w2).alloc (Nat.le_refl _) _).alloc (by simp) _)
      have CT : Hid (Calls Tryd.prog 52 #[.slice (some ⟨w2.heap.size + 1, 0, none⟩) 2 2] wc fun e w' => ∃ v, e = .returned v ∧ OBM 4 wc.heap.size wc v (fr :: gone).length (flatR (fr :: gone)) w') := Lib.hid (by
        have h1 : Cs wc w2.heap.size (recCells fr) := by
          rw [hwc]; exact (Cs.new w2 #[.string fr.1, .int .u16 fr.2.1, .int .u32 fr.2.2.1, .string fr.2.2.2] 41 (recCells fr)).alloc _
        have h2 := Cs.new (w2.alloc (.cells #[.string fr.1, .int .u16 fr.2.1, .int .u32 fr.2.2.1, .string fr.2.2.2] 41)) #[.slice (some ⟨w2.heap.size, 0, none⟩) 1 1, .slice Ag ng cg] 27 [.slice (some ⟨w2.heap.size, 0, none⟩) 1 1, .slice Ag ng cg]
        rw [← hwc] at h2
        exact concat_two h1 (HG.out.below (below_trans HB2.out HB2.out.size HBC.out)) (by have := HGN.out; omega) (h2.at_ _ (by simp)))
      have HWC := Lib.hid hwc
      clear hwc c0 c1 c2 c3 hlB hne HC1 HB1
      go_wp2_with fail
      rw [← HWC.out]
      refine CT.out.mono ?_
      rintro e w3 ⟨v3, rfl, ho3⟩
      obtain ⟨L, hL⟩ : ∃ L, L = fr :: gone := ⟨_, rfl⟩
      rw [← hL] at ho3
      have HD := Lib.hid (HD.out)
      rw [← hL] at HD
      obtain ⟨AL, cl, rfl, hl1, hl2, -⟩ := ho3.slice
      obtain ⟨m, hm⟩ : ∃ m, m = L.length := ⟨_, rfl⟩
      have hm2 : m ≤ 20000 := by rw [hm, hL]; have := HG.out.len; have := HGN.out; simp at *; omega
      have HRL := Lib.hid (ho3.recs rfl)
      rw [← hm]
      have HM := Lib.hid hm
      have HB3 := Lib.hid (below_trans HB2.out HB2.out.size (below_trans HBC.out HBC.out.size ho3.bel))
      have HC3 := Lib.hid ((HC2.out.below HBC.out).below ho3.bel)
      have S0 : Hid (DelS w L z 0 (.slice AZ n cz) z w3) := Lib.hid ⟨HZ.out.below HB3.out, HRI.out, Nat.le_refl _, rfl, HB3.out⟩
      clear hL ho3 hl1 hl2 hm CT HWC HBC HC2 HB2 d0 d1 d2 d3 d8 hlB2
      go_wp2_with fail
      go_loopw [0, 8, 35] (fun v er i wr => ∃ (k : Nat) (zk : List RecT) (V : Value), k ≤ m ∧ v = V ∧ i = .int .i64 k ∧ er = .nilIface ∧ Hid (DelS w L z k V zk wr) ∧ Hid (Below w3.heap.size w3 wr)) (fun _ _ i _ => m - (intOf i).toNat)
      case atStart => exact ⟨0, z, _, Nat.zero_le _, rfl, rfl, rfl, S0, Lib.hid (Below.refl _ _)⟩
      case round =>
        obtain ⟨k, zk, V, hk, hv, rfl, rfl, HS, HBR⟩ := hrel
        obtain rfl := hv.symm
        by_cases hkm : k < m
        · have hkm' : (k : Int) < m := by omega
          have hk0 : ¬ (k : Int) < 0 := by omega
          obtain ⟨r, hr⟩ : ∃ q, L[k]? = some q := ⟨_, List.getElem?_eq_getElem (by rw [← HM.out]; exact hkm)⟩
          obtain ⟨g, off, rfl, hg, z0, z1, z2, z3⟩ := (HRL.out.below HBR.out) k _ hr
          have HR := Lib.hid (drop_at hr)
          have DEL := Lib.hid (fun wx hb => delete_zone (HS.out.zone.below hb) r (w := wx) (by have := HS.out.len; have := HZN.out; omega) HS.out.ris)
          unfold recV at DEL
          clear hr
          go_wp2_with fail
          refine (DEL.out _ ((Below.refl _ _).alloc (Nat.le_refl _) _)).mono ?_
          rintro e w5 (⟨hq, rfl, hb⟩ | ⟨hq, v', rfl, ho⟩)
          · have hf : apdR z fr tt gone new = .inl 6 := by
              have h1 := HS.out.rest
              rw [HR.out] at h1
              rw [delAll_cons] at h1
              rw [hq, if_neg (by decide)] at h1
              have := HD.out
              rw [← h1] at this
              exact this
            have HF := Lib.hid hf
            have HBF := Lib.hid (below_trans HS.out.bel HS.out.bel.size (below_alloc (.cells #[.string r.1, .int .u16 r.2.1, .int .u32 r.2.2.1, .string r.2.2.2] 41) (Below.refl _ _) (Nat.le_refl _) hb))
            clear hf hq hb DEL
            unfold errV
            go_wp2_with fail
            exact HFAIL.out 6 HF.out _ HBF.out
          · have HBW := Lib.hid (below_alloc (.cells #[.string r.1, .int .u16 r.2.1, .int .u32 r.2.2.1, .string r.2.2.2] 41) (Below.refl _ _) (Nat.le_refl _) ho.bel)
            have HS2 : Hid (DelS w L z (k + 1) v' (lessR zk r) w5) := Lib.hid (by
              refine ⟨ho.zone, lessR_rising HS.out.ris, ?_, ?_, below_trans HS.out.bel HS.out.bel.size HBW.out⟩
              · have h2 : (lessR zk r).length ≤ zk.length := List.length_filter_le _ _
                have := HS.out.len; omega
              · have h1 := HS.out.rest
                rw [HR.out] at h1
                rw [delAll_cons] at h1
                rw [hq, if_pos rfl] at h1
                exact h1)
            clear ho hq DEL
            go_wp2_with fail
            go_roundw
            case rel => exact ⟨k + 1, _, _, by omega, rfl, by go_num, rfl, HS2, Lib.hid (below_trans HBR.out HBR.out.size HBW.out)⟩
            case measure => simp [intOf]; omega
        · obtain rfl : k = m := by omega
          have hkm' : ¬ (k : Int) < k := by omega
          have hz1 : delAll L z = some zk := by
            have h1 := HS.out.rest
            rw [List.drop_of_length_le (by rw [HM.out]; omega)] at h1
            exact h1.symm
          have hd := HD.out
          rw [hz1] at hd
          have HD := Lib.hid hd
          have HCR := Lib.hid (HC3.out.below HBR.out)
          have d4 := HCR.out.get 4 _
          have d5 := HCR.out.get 5 _
          have d6 := HCR.out.get 6 _
          have d7 := HCR.out.get 7 _
          have d9 := HCR.out.get 9 _
          have hlB2 := HCR.out.lt
          obtain ⟨wc, hwc⟩ : ∃ wc, wc = ((wr.alloc (.cells #[.string tt.1, .int .u16 tt.2.1, .int .u32 tt.2.2.1, .string tt.2.2.2] 41)).alloc (.cells #[.slice An nn cn, .slice (some ⟨wr.heap.size, 0, none⟩) 1 1] 27)) := ⟨_, rfl⟩
          have HBC : Hid (Below wr.heap.size wr wc) := Lib.hid (by rw [hwc]; exact ((Below.refl wr.heap.size wr).alloc (Nat.le_refl _) _).alloc (by simp) _)
          have CT : Hid (Calls Tryd.prog 52 #[.slice (some ⟨wr.heap.size + 1, 0, none⟩) 2 2] wc fun e w' => ∃ v, e = .returned v ∧ OBM 4 wc.heap.size wc v (new ++ [tt]).length (flatR (new ++ [tt])) w') := Lib.hid (by
            have h1 : Cs wc wr.heap.size (recCells tt) := by
              rw [hwc]; exact (Cs.new wr #[.string tt.1, .int .u16 tt.2.1, .int .u32 tt.2.2.1, .string tt.2.2.2] 41 (recCells tt)).alloc _
            have h2 := Cs.new (wr.alloc (.cells #[.string tt.1, .int .u16 tt.2.1, .int .u32 tt.2.2.1, .string tt.2.2.2] 41)) #[.slice An nn cn, .slice (some ⟨wr.heap.size, 0, none⟩) 1 1] 27 [.slice An nn cn, .slice (some ⟨wr.heap.size, 0, none⟩) 1 1]
            rw [← hwc] at h2
            exact concat_last h1 (HN.out.below (below_trans HS.out.bel HS.out.bel.size HBC.out)) (by have := HNN.out; omega) (h2.at_ _ (by simp)))
          have HWC := Lib.hid hwc
          clear hwc hz1 hd
          go_wp2_with fail
          rw [← HWC.out]
          refine CT.out.mono ?_
          rintro e w6 ⟨v6, rfl, ho6⟩
          obtain ⟨L2, hL2⟩ : ∃ L2, L2 = new ++ [tt] := ⟨_, rfl⟩
          rw [← hL2] at ho6 HD
          obtain ⟨AL2, cl2, rfl, hl1, hl2, -⟩ := ho6.slice
          obtain ⟨m2, hm2⟩ : ∃ m2, m2 = L2.length := ⟨_, rfl⟩
          have hmm2 : m2 ≤ 20000 ∧ 0 < m2 := by rw [hm2, hL2]; have := HN.out.len; have := HNN.out; simp at *; omega
          have HRL2 := Lib.hid (ho6.recs rfl)
          rw [← hm2]
          have HM2 := Lib.hid hm2
          have HB6 := Lib.hid (below_trans HBC.out HBC.out.size ho6.bel)
          have S0 : Hid (InsS w L2 zk 0 V zk w6) := Lib.hid ⟨HS.out.zone.below HB6.out, by omega, rfl, below_trans HS.out.bel HS.out.bel.size HB6.out, fun h => by omega⟩
          have HZK : Hid (zk.length ≤ 10000) := Lib.hid (by have := HS.out.len; have := HZN.out; omega)
          obtain ⟨hmm2, hmm0⟩ := hmm2
          clear hL2 ho6 hl1 hl2 hm2 CT HWC HBC HB6 d4 d5 d6 d7 d9 hlB2 HS HCR
          go_wp2_with fail
          go_loopw [0, 8, 57] (fun v er i wr => ∃ (k : Nat) (zj : List RecT) (V : Value), k ≤ m2 ∧ v = V ∧ i = .int .i64 k ∧ er = .nilIface ∧ Hid (InsS w L2 zk k V zj wr) ∧ Hid (Below w6.heap.size w6 wr)) (fun _ _ i _ => m2 - (intOf i).toNat)
          case atStart => exact ⟨0, zk, _, Nat.zero_le _, rfl, rfl, rfl, S0, Lib.hid (Below.refl _ _)⟩
          case round =>
            obtain ⟨j, zj, V, hj, hv, rfl, rfl, HS, HBR⟩ := hrel
            obtain rfl := hv.symm
            by_cases hjm : j < m2
            · have hjm' : (j : Int) < m2 := by omega
              have hj0 : ¬ (j : Int) < 0 := by omega
              obtain ⟨r, hr⟩ : ∃ q, L2[j]? = some q := ⟨_, List.getElem?_eq_getElem (by rw [← HM2.out]; exact hjm)⟩
              obtain ⟨g, off, rfl, hg, z0, z1, z2, z3⟩ := (HRL2.out.below HBR.out) j _ hr
              have HR := Lib.hid (drop_at hr)
              have INS := Lib.hid (fun wx hb => insert_zone (HS.out.zone.below hb) r (w := wx) (by have := HS.out.len; have := HZK.out; omega))
              unfold recV at INS
              clear hr
              go_wp2_with fail
              refine (INS.out _ ((Below.refl _ _).alloc (Nat.le_refl _) _)).mono ?_
              rintro e w7 (⟨hq, rfl, hb⟩ | ⟨hq, v', rfl, ho⟩)
              · have hf : apdR z fr tt gone new = .inl 7 := by
                  have h1 := HS.out.rest
                  rw [HR.out] at h1
                  rw [insAll_cons] at h1
                  rw [hq, if_pos rfl] at h1
                  have := HD.out
                  rw [← h1] at this
                  exact this
                have HF := Lib.hid hf
                have HBF := Lib.hid (below_trans HS.out.bel HS.out.bel.size (below_alloc (.cells #[.string r.1, .int .u16 r.2.1, .int .u32 r.2.2.1, .string r.2.2.2] 41) (Below.refl _ _) (Nat.le_refl _) hb))
                clear hf hq hb INS
                unfold errV
                go_wp2_with fail
                exact HFAIL.out 7 HF.out _ HBF.out
              · have HBW := Lib.hid (below_alloc (.cells #[.string r.1, .int .u16 r.2.1, .int .u32 r.2.2.1, .string r.2.2.2] 41) (Below.refl _ _) (Nat.le_refl _) ho.bel)
                have HS2 : Hid (InsS w L2 zk (j + 1) v' (insR zj r) w7) := Lib.hid (by
                  refine ⟨ho.zone, ?_, ?_, below_trans HS.out.bel HS.out.bel.size HBW.out, fun _ => ?_⟩
                  · rw [insR_len]; have := HS.out.len; omega
                  · have h1 := HS.out.rest
                    rw [HR.out] at h1
                    rw [insAll_cons] at h1
                    rw [hq, if_neg (by decide)] at h1
                    exact h1
                  · exact ho.out (by have := HS.out.bel.size; simp; omega) (HS.out.bel.alloc HS.out.bel.size _))
                clear ho hq INS
                go_wp2_with fail
                go_roundw
                case rel => exact ⟨j + 1, _, _, by omega, rfl, by go_num, rfl, HS2, Lib.hid (below_trans HBR.out HBR.out.size HBW.out)⟩
                case measure => simp [intOf]; omega
            · obtain rfl : j = m2 := by omega
              have hjm' : ¬ (j : Int) < j := by omega
              have hz1 : insAll L2 zk = some zj := by
                have h1 := HS.out.rest
                rw [List.drop_of_length_le (by rw [HM2.out]; omega)] at h1
                exact h1.symm
              have hd := HD.out
              rw [hz1] at hd
              have HD := Lib.hid hd
              clear hz1 hd
              go_wp2_with fail
              exact HOK.out zj V _ HD.out (HS.out.own hmm0)
end Go.Proofs.YtpbbnpglcadimaaDoor
namespace Go.Proofs.YtpbbnpglcadimaaDoor
open Go.RowKit Go.Extern.Stop Go.Stop Go.Extern
set_option linter.unusedVariables false
/-- The variable errors.errorType as the start lays it. -/
abbrev errT : Value := .iface 130 (.agg #[.pointer (some ⟨1, 33, none⟩)])
def Etype (w : World) : Prop := w.cell? ⟨0, 0, none⟩ = some errT
theorem Etype.pos {w : World} (h : Etype w) : 0 < w.heap.size := by
  rcases Nat.eq_zero_or_pos w.heap.size with h0 | h1
  · unfold Etype at h; simp [World.cell?, h0] at h
  · exact h1
theorem Etype.keep {B : Nat} {w w' : World} (h : Etype w) (hB : w.heap.size ≤ B) (hb : Below B w w') : Etype w' := by
  unfold Etype
  rw [World.cell?_of_block (a := ⟨0, 0, none⟩) (hb.block 0 (Nat.lt_of_lt_of_le h.pos hB))]; exact h
theorem as_none (t : Value) (w : World) : Calls Tryd.prog 25 #[.nilIface, t] w fun e w' => e = .returned (.bool false) ∧ w = w' := by
  go_enter Tryd.func25, Tryd.ntmps25
  go_wp2
  go_ret
  exact ⟨rfl, rfl⟩
section
abbrev hP : Value := .pointer (some ⟨1, 72, none⟩)
abbrev hE : Value := .pointer (some ⟨1, 36, none⟩)
theorem as_vp (t : Addr) (w : World) : (ReflectliteValue.unpack (.iface 72 (.pointer (some t)))).run Tryd.prog w = .ok (.agg #[hP, .pointer (some ⟨w.heap.size, 0, none⟩), .int .u64 150]) (w.alloc (.cells #[.pointer (some t)] 72)) := by kernel_rfl
theorem as_ve (x : Int) (w : World) : (ReflectliteValue.unpack (.iface 36 (.int .i64 x))).run Tryd.prog w = .ok (.agg #[hE, .pointer (some ⟨w.heap.size, 0, none⟩), .int .u64 130]) (w.alloc (.cells #[.int .i64 x] 36)) := by kernel_rfl
theorem as_ty (a : Addr) (w : World) : (ReflectliteValue.methodAny (ReflectliteValue.valueError "reflectlite.Value.Type" 0) (fun t _ _ _ => ReflectliteType.toType t) #[.agg #[hP, .pointer (some a), .int .u64 150]]).run Tryd.prog w = .ok (.iface 130 (.agg #[hP])) w := by kernel_rfl
theorem as_mk (h : Value) (w : World) : (Go.method 296 130 (.agg #[h]) "Kind").run Tryd.prog w = .ok (107, h) w := by kernel_rfl
theorem as_me (h : Value) (w : World) : (Go.method 296 130 (.agg #[h]) "Elem").run Tryd.prog w = .ok (117, .agg #[h]) w := by kernel_rfl
theorem as_mi (h : Value) (w : World) : (Go.method 296 130 (.agg #[h]) "Implements").run Tryd.prog w = .ok (118, .agg #[h]) w := by kernel_rfl
theorem as_ma (h : Value) (w : World) : (Go.method 296 130 (.agg #[h]) "AssignableTo").run Tryd.prog w = .ok (115, .agg #[h]) w := by kernel_rfl
theorem as_kp (w : World) : ((ReflectliteType.abiMethod fun t => (fun a : Nat => Value.int IntKind.u8 (a : Int)) <$> Rtype.kind t) #[hP]).run Tryd.prog w = .ok (.int .u8 22) w := by kernel_rfl
theorem as_ke (w : World) : ((ReflectliteType.abiMethod fun t => (fun a : Nat => Value.int IntKind.u8 (a : Int)) <$> Rtype.kind t) #[hE]).run Tryd.prog w = .ok (.int .u8 2) w := by kernel_rfl
theorem as_el (w : World) : (ReflectliteType.method ReflectliteType.elem #[.agg #[hP]]).run Tryd.prog w = .ok (.iface 130 (.agg #[hE])) w := by kernel_rfl
theorem as_im (w : World) : (ReflectliteType.relation "Implements" ReflectliteType.implements_ #[.agg #[hE], errT]).run Tryd.prog w = .ok (.bool true) w := by kernel_rfl
theorem as_to (v : Value) (w : World) : (ReflectliteType.typeOf #[.iface 36 v]).run Tryd.prog w = .ok (.iface 130 (.agg #[hE])) w := by kernel_rfl
theorem as_as (w : World) : (ReflectliteType.relation "AssignableTo" ReflectliteType.assignableTo #[.agg #[hE], .iface 130 (.agg #[hE])]).run Tryd.prog w = .ok (.bool true) w := by kernel_rfl
theorem as_m (z : Sem Value) (f : TypeId → Addr → Nat → Nat → Sem Value) (v : Value) : ReflectliteValue.method z f #[v] = (do match ← ReflectliteValue.parts v with | none => z | some (t, a, fl) => f t a fl (fl % 32)) := rfl
theorem as_pp (a : Addr) (w : World) : (ReflectliteValue.parts (.agg #[hP, .pointer (some a), .int .u64 150])).run Tryd.prog w = .ok (some (72, a, 150)) w := by kernel_rfl
theorem as_pa (a : Addr) (w : World) : (ReflectliteValue.parts (.agg #[hE, .pointer (some a), .int .u64 386])).run Tryd.prog w = .ok (some (36, a, 386)) w := by kernel_rfl
theorem as_pe (a : Addr) (w : World) : (ReflectliteValue.parts (.agg #[hE, .pointer (some a), .int .u64 130])).run Tryd.prog w = .ok (some (36, a, 130)) w := by kernel_rfl
theorem as_nil (a p : Addr) (W : World) (ha : W.cell? a = some (.pointer (some p))) :
    (ReflectliteValue.method (ReflectliteValue.valueError "reflectlite.Value.IsNil" 0) ReflectliteValue.isNil #[.agg #[hP, .pointer (some a), .int .u64 150]]).run Tryd.prog W = .ok (.bool false) W := by
  rw [as_m]
  simp only [Sem.run_bind, as_pp, Result.andThen]
  simp [ReflectliteValue.isNil, loadVar, isAgg, underlying, Tryd.underlying72, ha, Result.andThen]
theorem as_eo (w : World) : (Rtype.elem? 72).run Tryd.prog w = .ok (some 36) w := by kernel_rfl
theorem as_mv (p : Addr) (w : World) : (ReflectliteValue.mk 36 p ReflectliteValue.flagAddr).run Tryd.prog w = .ok (.agg #[hE, .pointer (some p), .int .u64 386]) w := by kernel_rfl
theorem as_elv (a p : Addr) (W : World) (ha : W.cell? a = some (.pointer (some p))) :
    (ReflectliteValue.method (ReflectliteValue.valueError "reflectlite.Value.Elem" 0) ReflectliteValue.elem #[.agg #[hP, .pointer (some a), .int .u64 150]]).run Tryd.prog W = .ok (.agg #[hE, .pointer (some p), .int .u64 386]) W := by
  rw [as_m]
  simp only [Sem.run_bind, as_pp, Result.andThen]
  simp [ReflectliteValue.elem, loadVar, isAgg, underlying, Tryd.underlying72, ha, Result.andThen, as_eo, as_mv]
theorem as_s (v x : Value) : ReflectliteValue.set #[v, x] = (do
    let (some (dst, a, fl), some (src, b, _)) := (← ReflectliteValue.parts v, ← ReflectliteValue.parts x)
      | unsupported (.noEntry "extern/(internal/reflectlite.Value).Set.zeroValue")
    if fl / ReflectliteValue.flagAddr % 2 == 0 then unsupported (.noEntry "extern/(internal/reflectlite.Value).Set.unaddressable")
    let val ← loadVar src b
    if ← Rtype.directlyAssignable dst src then storeVar dst a val
    else if ← Rtype.implements dst src then
      if (← Rtype.kind src) == 20 then
        match val with
        | .nilIface => unsupported (.noEntry "extern/reflectlite: a nil value of one interface type handed on as a value of another")
        | _ => storeVar dst a val
      else storeVar dst a (.iface src val)
    else panicString ("reflectlite.Set: value of type " ++ (← Rtype.spelt src) ++ " is not assignable to type " ++ (← Rtype.spelt dst))
    pure (.tuple #[])) := rfl
theorem as_da (w : World) : (Rtype.directlyAssignable 36 36).run Tryd.prog w = .ok true w := by kernel_rfl
theorem as_set (ta b : Addr) (x : Int) (old : Value) (W : World) (hb : W.cell? b = some (.int .i64 x)) (ht : W.cell? ta = some old) (hf : W.frozen? ta = false) :
    (ReflectliteValue.set #[.agg #[hE, .pointer (some ta), .int .u64 386], .agg #[hE, .pointer (some b), .int .u64 130]]).run Tryd.prog W = .ok (.tuple #[]) (W.setCell ta (.int .i64 x)) := by
  rw [as_s]
  simp only [Sem.run_bind, as_pa, as_pe, Result.andThen]
  simp [ReflectliteValue.flagAddr, loadVar, isAgg, underlying, Tryd.underlying36, hb, Result.andThen, as_da, storeVar, Value.cells, storeCells, Addr.add]
  rw [run_store Tryd.prog W ta _ _ (by rfl)]
  simp [ht, hf]
end
set_option maxHeartbeats 4000000 in
theorem as_errno (x : Int) (t : Addr) (old : Value) (w : World) (hg : Etype w) (ht0 : w.cell? t = some old) (hf0 : w.frozen? t = false) :
    Calls Tryd.prog 25 #[.iface 36 (.int .i64 x), .iface 72 (.pointer (some t))] w fun ev w' => ev = .returned (.bool true) ∧ ∃ W1, Below w.heap.size w W1 ∧ w' = W1.setCell t (.int .i64 x) := by
  have h6 := @run_callFunc_extern Tryd.prog 46 _ (fun args => ReflectliteValue.unpack (args.getD 0 (.tuple #[]))) Tryd.func46 (by kernel_rfl) (by kernel_rfl) (by kernel_rfl) (by kernel_rfl)
  have h7 := @run_callFunc_extern Tryd.prog 47 _ (ReflectliteValue.methodAny (ReflectliteValue.valueError "reflectlite.Value.Type" 0) (fun t _ _ _ => ReflectliteType.toType t)) Tryd.func47 (by kernel_rfl) (by kernel_rfl) (by kernel_rfl) (by kernel_rfl)
  have h8 := @run_callFunc_extern Tryd.prog 48 _ (ReflectliteValue.method (ReflectliteValue.valueError "reflectlite.Value.IsNil" 0) ReflectliteValue.isNil) Tryd.func48 (by kernel_rfl) (by kernel_rfl) (by kernel_rfl) (by kernel_rfl)
  have h9 := @run_callFunc_extern Tryd.prog 107 _ (ReflectliteType.abiMethod fun t => do pure (.int .u8 (← Rtype.kind t))) Tryd.func107 (by kernel_rfl) (by kernel_rfl) (by kernel_rfl) (by kernel_rfl)
  have h10 := @run_callFunc_extern Tryd.prog 117 _ (ReflectliteType.method ReflectliteType.elem) Tryd.func117 (by kernel_rfl) (by kernel_rfl) (by kernel_rfl) (by kernel_rfl)
  have h11 := @run_callFunc_extern Tryd.prog 118 _ (ReflectliteType.relation "Implements" ReflectliteType.implements_) Tryd.func118 (by kernel_rfl) (by kernel_rfl) (by kernel_rfl) (by kernel_rfl)
  have h12 := @run_callFunc_extern Tryd.prog 66 _ ReflectliteType.typeOf Tryd.func66 (by kernel_rfl) (by kernel_rfl) (by kernel_rfl) (by kernel_rfl)
  have h13 := @run_callFunc_extern Tryd.prog 115 _ (ReflectliteType.relation "AssignableTo" ReflectliteType.assignableTo) Tryd.func115 (by kernel_rfl) (by kernel_rfl) (by kernel_rfl) (by kernel_rfl)
  have h14 := @run_callFunc_extern Tryd.prog 67 _ (ReflectliteValue.method (ReflectliteValue.valueError "reflectlite.Value.Elem" 0) ReflectliteValue.elem) Tryd.func67 (by kernel_rfl) (by kernel_rfl) (by kernel_rfl) (by kernel_rfl)
  have h15 := @run_callFunc_extern Tryd.prog 68 _ ReflectliteValue.set Tryd.func68 (by kernel_rfl) (by kernel_rfl) (by kernel_rfl) (by kernel_rfl)
  have g1 := as_to
  have g2 := as_ma
  have g3 := as_as
  have g4 := as_ve
  have g5 := as_vp
  have g6 := as_ty
  have g7 := as_mk
  have g8 := as_me
  have g9 := as_mi
  have g10 := as_kp
  have g11 := as_ke
  have g12 := as_el
  have g13 := as_im
  obtain ⟨o1, ho1⟩ : ∃ o1 : Obj, o1 = .cells #[.pointer (some t)] 72 := ⟨_, rfl⟩
  have hlt := hg.pos
  have hg0 : w.cell? ⟨0, 0, none⟩ = some errT := hg
  have htl : t.block < w.heap.size := by
    rcases Nat.lt_or_ge t.block w.heap.size with h | h
    · exact h
    · simp [World.cell?, Array.getElem?_eq_none h] at ht0
  have n8 := as_nil ⟨w.heap.size, 0, none⟩ t ((w.alloc (.cells #[.pointer (some t)] 72)).alloc (.cells #[hP, .pointer (some ⟨w.heap.size, 0, none⟩), .int .u64 150] 101)) (by simp)
  have hg2 : ((w.alloc (.cells #[.pointer (some t)] 72)).alloc (.cells #[hP, .pointer (some ⟨w.heap.size, 0, none⟩), .int .u64 150] 101)).cell? ⟨0, 0, none⟩ = some errT := by
    rw [World.cell?_alloc_lt _ _ ⟨0, 0, none⟩ (by simp), World.cell?_alloc_lt _ _ ⟨0, 0, none⟩ hlt]; exact hg0
  have el := as_elv ⟨w.heap.size, 0, none⟩ t (((w.alloc (.cells #[.pointer (some t)] 72)).alloc (.cells #[hP, .pointer (some ⟨w.heap.size, 0, none⟩), .int .u64 150] 101)).alloc (.cells #[hP, .pointer (some ⟨w.heap.size, 0, none⟩), .int .u64 150] 101)) (by rw [World.cell?_alloc_lt _ _ ⟨w.heap.size, 0, none⟩ (by simp; omega)]; simp)
  have st := as_set t ⟨w.heap.size + 1 + 1 + 1, 0, none⟩ x old ((((w.alloc (.cells #[.pointer (some t)] 72)).alloc (.cells #[hP, .pointer (some ⟨w.heap.size, 0, none⟩), .int .u64 150] 101)).alloc (.cells #[hP, .pointer (some ⟨w.heap.size, 0, none⟩), .int .u64 150] 101)).alloc (.cells #[.int .i64 x] 36))
    (by rw [World.cell?_alloc_at _ _ _ _ (by simp)]; rfl)
    (by rw [World.cell?_alloc_lt _ _ t (by simp; omega), World.cell?_alloc_lt _ _ t (by simp; omega), World.cell?_alloc_lt _ _ t (by simp; omega), World.cell?_alloc_lt _ _ t htl]; exact ht0)
    (by rw [World.frozen?_alloc_old _ _ t (by simp; omega), World.frozen?_alloc_old _ _ t (by simp; omega), World.frozen?_alloc_old _ _ t (by simp; omega), World.frozen?_alloc_old _ _ t (Nat.ne_of_lt htl)]; exact hf0)
  go_enter Tryd.func25, Tryd.ntmps25
  go_wp2
  refine wp_loop_rounds 1 ?_
  rw [rounds_succ]
  go_wp2
  go_ret
  refine ⟨rfl, _, ?_, rfl⟩
  exact ((((Below.refl _ _).alloc (Nat.le_refl _) _).alloc (by simp) _).alloc (by simp; omega) _).alloc (by simp; omega) _
theorem number_none (w : World) : Calls Tryd.prog 9 #[.nilIface] w fun e w' => e = .returned (.int .i64 0) ∧ Below w.heap.size w w' := by
  go_enter Tryd.func9, Tryd.ntmps9
  go_wp2_with fail
  refine (as_none _ _).mono ?_
  rintro e w1 ⟨rfl, rfl⟩
  go_wp2_with fail
  go_ret
  exact ⟨rfl, (Below.refl _ _).alloc (Nat.le_refl _) _⟩
theorem number_errno (x : Int) (w : World) (hg : Etype w) : Calls Tryd.prog 9 #[.iface 36 (.int .i64 x)] w fun e w' => e = .returned (.int .i64 x) ∧ Below w.heap.size w w' := by
  have hb : Below w.heap.size w (w.alloc (.cells #[.int .i64 0] 36)) := (Below.refl _ _).alloc (Nat.le_refl _) _
  have AE := Lib.hid (as_errno x ⟨w.heap.size, 0, none⟩ (.int .i64 0) (w.alloc (.cells #[.int .i64 0] 36)) (hg.keep (Nat.le_refl _) hb) (by simp) (by simp))
  have HB := Lib.hid hb
  clear hb hg
  go_enter Tryd.func9, Tryd.ntmps9
  go_wp2_with fail
  refine AE.out.mono ?_
  clear AE
  rintro e w1 ⟨rfl, W1, hb1, rfl⟩
  have hc : (W1.setCell ⟨w.heap.size, 0, none⟩ (.int .i64 x)).cell? ⟨w.heap.size, 0, none⟩ = some (.int .i64 x) := by
    refine World.cell?_setCell_same W1 _ _ (u := .int .i64 0) ?_
    rw [World.cell?_of_block (a := ⟨w.heap.size, 0, none⟩) (hb1.block w.heap.size (by simp))]; simp
  have hbel := Lib.hid ((HB.out.trans (hb1.mono (by simp))).setCell (p := ⟨w.heap.size, 0, none⟩) (Nat.le_refl _) (.int .i64 x))
  clear hb1
  go_wp2_with fail
  go_ret
  exact ⟨rfl, hbel.out⟩
end Go.Proofs.YtpbbnpglcadimaaDoor
namespace Go.Proofs.YtpbbnpglcadimaaDoor
open Go.RowKit
set_option linter.unusedVariables false
set_option linter.unusedSimpArgs false
set_option maxRecDepth 20000
attribute [local simp] putsF isV wordOf Deps Region.binds Region.wanted Act.put wantedX isB
theorem app_follows : Tryd.prog.follows .mixedOrders = true := by kernel_rfl
def txt10 : RecT := (⟨#[]⟩, 16, 0, ⟨#[1, 120]⟩)
def S10 (n : Nat) : RecT := soaR ⟨#[]⟩ n
theorem soaD_ne : soaD 1 ≠ soaD 2 := by decide +kernel
theorem eqB_refl10 (r : RecT) : eqB r r = true := (eqB_iff r r).2 rfl
theorem firstS_soa (o : ByteArray) (n : Nat) : firstS [soaR o n] = some (soaR o n) := rfl
theorem lessR_one (r : RecT) : lessR [r] r = [] := by unfold lessR; simp [eqB_refl10]
theorem delta10_a : apdR [S10 1] (S10 1) (S10 2) [txt10] [] = .inl 6 := by
  unfold apdR S10
  rw [firstS_soa]
  simp only [eqB_refl10, if_true]
  rw [delAll_cons, if_pos ((hasB_iff _ _).2 (by simp)), lessR_one, delAll_cons, if_neg (by simp [hasB])]
theorem delta10_b : apdR [S10 1] (S10 1) (S10 2) [] [] = .inr [S10 2] := by
  unfold apdR S10
  rw [firstS_soa]
  simp only [eqB_refl10, if_true]
  rw [delAll_cons, if_pos ((hasB_iff _ _).2 (by simp)), lessR_one]
  simp only [delAll, List.nil_append]
  rw [insAll_cons, if_neg (by simp [hasB])]
  rfl
/-- A delta's value, whose rows lie somewhere. -/
def dW (fr tt : RecT) (r : RecT) : Value → World → Prop := fun v w => ∃ g, v = dltV fr tt (.slice (some ⟨g, 0, none⟩) 1 1) (.slice none 0 0) ∧ Cs w g (recCells r)
theorem dW_stays (fr tt r : RecT) : ∀ v w w', dW fr tt r v w → Goes w w' → dW fr tt r v w' := by
  rintro v w w' ⟨g, rfl, h⟩ hb
  exact ⟨g, rfl, h.below hb⟩
/-- One record in a slice; the same beside no error. -/
def oneR (r : RecT) : Value → World → Prop := fun v w => ∃ g c, v = .slice (some ⟨g, 0, none⟩) 1 c ∧ 1 ≤ c ∧ (∀ i u, (recCells r)[i]? = some u → w.cell? ⟨g, i, none⟩ = some u) ∧ g < w.heap.size
def oneRT (r : RecT) : Value → World → Prop := fun v w => ∃ v', v = .tuple #[v', .nilIface] ∧ oneR r v' w
theorem oneR_stays (r : RecT) : ∀ v w w', oneR r v w → Goes w w' → oneR r v w' := by
  rintro v w w' ⟨g, c, rfl, hc, h, hl⟩ hb
  exact ⟨g, c, rfl, hc, fun i u hu => (hb.cell (p := ⟨g, i, none⟩) hl).trans (h i u hu), Nat.lt_of_lt_of_le hl hb.size⟩
theorem oneRT_stays (r : RecT) : ∀ v w w', oneRT r v w → Goes w w' → oneRT r v w' := by
  rintro v w w' ⟨v', rfl, h⟩ hb
  exact ⟨v', rfl, oneR_stays r _ _ _ h hb⟩
theorem OBM.oneR {B : Nat} {W w : World} {v : Value} {r : RecT} (h : OBM 4 B W v [r].length (flatR [r]) w) : oneR r v w := by
  rcases h.own with ⟨_, h0⟩ | ⟨g, cap, rfl, h1, h2, h3, h4, h5, h6⟩
  · simp at h0
  · exact ⟨g, cap, rfl, h3, fun i u hu => h6 i u (by simpa [flatR] using hu), h2⟩
set_option maxHeartbeats 3200000 in
theorem awake10_any (w : World) (hE : Etype w) : Calls Tryd.prog 13 #[] w fun e w' => e = .returned (.bool true) ∧ Below w.heap.size w w' := by
  obtain ⟨D1, hD1⟩ : ∃ D, D = soaD 1 := ⟨_, rfl⟩
  obtain ⟨D2, hD2⟩ : ∃ D, D = soaD 2 := ⟨_, rfl⟩
  have SO1 : Hid (∀ w, Calls Tryd.prog 10 #[.string ⟨#[]⟩, .int .u32 1] w fun e w' => e = .returned (.agg #[.string ⟨#[]⟩, .int .u16 6, .int .u32 9, .string D1]) ∧ Below w.heap.size w w') := Lib.hid (fun w => by rw [hD1]; exact soa9_any ⟨#[]⟩ 1 (by decide) w)
  have SO2 : Hid (∀ w, Calls Tryd.prog 10 #[.string ⟨#[]⟩, .int .u32 2] w fun e w' => e = .returned (.agg #[.string ⟨#[]⟩, .int .u16 6, .int .u32 9, .string D2]) ∧ Below w.heap.size w w') := Lib.hid (fun w => by rw [hD2]; exact soa9_any ⟨#[]⟩ 2 (by decide) w)
  have r1 : S10 1 = (⟨#[]⟩, 6, 9, D1) := by rw [hD1]; rfl
  have r2 : S10 2 = (⟨#[]⟩, 6, 9, D2) := by rw [hD2]; rfl
  have HE := Lib.hid hE
  have DA := delta10_a
  have DB := delta10_b
  rw [r1, r2] at DA DB
  have HDA := Lib.hid DA
  have HDB := Lib.hid DB
  have hri : Hid (∀ r : RecT, Rising [r]) := Lib.hid (fun r => List.pairwise_singleton _ _)
  have heq : ∀ w, (binOp .eql 41 (recV (⟨#[]⟩, 6, 9, D2)) (recV (⟨#[]⟩, 6, 9, D2))).run Tryd.prog w = .ok (.bool true) w := fun w => by rw [rec_eql, eqB_refl10]
  unfold recV at heq
  clear hE DA DB hD1 hD2 r1 r2
  go_enter Tryd.func13, Tryd.ntmps13
  go_wp2_with fail
  refine (SO1.out _).mono ?_
  rintro e w1 ⟨rfl, hb1⟩
  have HB1 := Lib.hid hb1
  clear hb1
  go_upto_region 2 with fail
  obtain ⟨g, hg⟩ : ∃ g, g = w1.heap.size := ⟨_, rfl⟩
  obtain ⟨w2, hw2⟩ : ∃ w2, w2 = w1.alloc (.cells #[.string ⟨#[]⟩, .int .u16 6, .int .u32 9, .string D1] 41) := ⟨_, rfl⟩
  have HC : Hid (Cs w2 g (recCells (⟨#[]⟩, 6, 9, D1))) := Lib.hid (by rw [hw2, hg]; exact Cs.new w1 _ _ _)
  have HB2 : Hid (Below w.heap.size w w2) := Lib.hid (by rw [hw2]; exact HB1.out.alloc HB1.out.size _)
  rw [← hw2, ← hg]
  clear hw2 hg
  refine wp_region_goesG app_follows (fun x => by simp [putsF, Act.put]; rfl) w2.heap.size w2
    [isV (.slice (some ⟨g, 0, none⟩) 1 1), isV (.slice (some ⟨g, 0, none⟩) 1 1), isV (.pointer (some ⟨g, 0, none⟩)), isV (.agg #[.string ⟨#[]⟩, .int .u16 6, .int .u32 9, .string D1]), isV (.agg #[.string ⟨#[]⟩, .int .u16 6, .int .u32 9, .string D2]), isV (.agg #[.string ⟨#[]⟩, .int .u16 16, .int .u32 0, .string ⟨#[1, 120]⟩]), litW 1 (recCells txt10), dW (⟨#[]⟩, 6, 9, D1) (⟨#[]⟩, 6, 9, D2) txt10, isV (.tuple #[.slice none 0 0, errV 6]), isV (.tuple #[.slice none 0 0, errV 6]), isV (.slice none 0 0), isV (errV 6), isV (.slice none 0 0), isV (errV 6)]
    (by kernel_rfl) (by kernel_rfl) (by kernel_rfl) rfl ?_ (Below.refl _ _) ?_ ?_
  · repeat (first | exact trivial | refine ⟨by first | exact isV_stays _ | exact litW_stays _ _ | exact dW_stays _ _ _, ?_⟩)
  · refine ⟨?_, ?_, ?_, ?_, ?_, ?_, ?_, ?_, ?_, ?_, ?_, ?_, ?_, ?_, trivial⟩
    all_goals
      intro x wx hR hd
      simp at hd ⊢
      try simp [hd]
      have c0 := (HC.out.below hR).get 0 _
      have c1 := (HC.out.below hR).get 1 _
      have c2 := (HC.out.below hR).get 2 _
      have c3 := (HC.out.below hR).get 3 _
      have gl := (HC.out.below hR).lt
    · go_simp; exact next_same _ rfl rfl hR
    · go_simp; exact next_same _ rfl rfl hR
    · go_simp; exact next_same _ rfl rfl hR
    · go_simp; exact next_same _ rfl rfl hR
    · go_simp
      go_at_call 10
      refine (SO2.out wx).mono ?_
      rintro e w3 ⟨rfl, hb3⟩
      exact next_call _ rfl rfl hR hR.size hb3
    · go_simp; exact next_same _ rfl rfl hR
    · go_simp; exact next_alloc _ _ rfl (litW_new 1 _ _ _ _) hR hR.size
    · obtain ⟨h3, h4, g6, h6, hc6⟩ := hd
      rw [h6]
      go_simp
      exact next_same _ rfl ⟨g6, rfl, hc6⟩ hR
    · obtain ⟨h0, ⟨g7, h7, hc7⟩, h4⟩ := hd
      rw [h7]
      unfold dltV dltCells recCells
      go_simp
      go_at_call 29
      refine (apd_any (.slice (some ⟨g, 0, none⟩) 1 1) [(⟨#[]⟩, 6, 9, D1)] (⟨#[]⟩, 6, 9, D1) (⟨#[]⟩, 6, 9, D2) (some ⟨g7, 0, none⟩) none 1 1 0 0 [txt10] [] wx ⟨_, 1, rfl, RowROk.one (HC.out.below hR), (fun e => by cases e), Nat.le_refl _, by decide⟩ (by simp) (hri.out _) (RowROk.one hc7) (by decide) (RowROk.nothing _ _ _) (by decide)).mono ?_
      intro e w3 hD
      rw [HDA.out] at hD
      rcases hD with ⟨er, h1, rfl, hb3⟩ | ⟨z, v, h1, -, -⟩
      · injection h1 with h1
        subst h1
        exact next_call _ rfl rfl hR hR.size hb3
      · cases h1
    · go_simp; exact next_same _ rfl rfl hR
    · go_simp; exact next_same _ rfl rfl hR
    · go_simp; exact next_same _ rfl rfl hR
    · go_simp; exact next_same _ rfl rfl hR
    · go_simp; exact next_same _ rfl rfl hR
  intro x w4 hR4 hx
  obtain ⟨-, -, -, -, -, -, -, -, -, -, -, -, x12, x13, -⟩ := hx
  have x12 : x 12 = _ := x12
  have x13 : x 13 = _ := x13
  rw [x12, x13]
  have HC4 := Lib.hid (HC.out.below hR4)
  have HB4 := Lib.hid (below_trans HB2.out HB2.out.size hR4)
  clear hR4 x12 x13 HC HB2
  unfold errV
  go_upto_region 3 with fail
  refine wp_region_goesG app_follows (fun x => by simp [putsF, Act.put]; rfl) w4.heap.size w4
    [isV (.slice (some ⟨g, 0, none⟩) 1 1), isV (.slice (some ⟨g, 0, none⟩) 1 1), isV (.pointer (some ⟨g, 0, none⟩)), isV (.agg #[.string ⟨#[]⟩, .int .u16 6, .int .u32 9, .string D1]), isV (.agg #[.string ⟨#[]⟩, .int .u16 6, .int .u32 9, .string D2]), isV (dltV (⟨#[]⟩, 6, 9, D1) (⟨#[]⟩, 6, 9, D2) (.slice none 0 0) (.slice none 0 0)), oneRT (⟨#[]⟩, 6, 9, D2), oneRT (⟨#[]⟩, 6, 9, D2), oneR (⟨#[]⟩, 6, 9, D2), isV .nilIface, oneR (⟨#[]⟩, 6, 9, D2), isV .nilIface]
    (by kernel_rfl) (by kernel_rfl) (by kernel_rfl) rfl ?_ (Below.refl _ _) ?_ ?_
  · repeat (first | exact trivial | refine ⟨by first | exact isV_stays _ | exact oneR_stays _ | exact oneRT_stays _, ?_⟩)
  · refine ⟨?_, ?_, ?_, ?_, ?_, ?_, ?_, ?_, ?_, ?_, ?_, ?_, trivial⟩
    all_goals
      intro y wx hR hd
      simp at hd ⊢
      try simp [hd]
      have c0 := (HC4.out.below hR).get 0 _
      have c1 := (HC4.out.below hR).get 1 _
      have c2 := (HC4.out.below hR).get 2 _
      have c3 := (HC4.out.below hR).get 3 _
      have gl := (HC4.out.below hR).lt
    · go_simp; exact next_same _ rfl rfl hR
    · go_simp; exact next_same _ rfl rfl hR
    · go_simp; exact next_same _ rfl rfl hR
    · go_simp; exact next_same _ rfl rfl hR
    · go_simp
      go_at_call 10
      refine (SO2.out wx).mono ?_
      rintro e w3 ⟨rfl, hb3⟩
      exact next_call _ rfl rfl hR hR.size hb3
    · go_simp; exact next_same _ rfl rfl hR
    · unfold dltV dltCells recCells
      go_simp
      go_at_call 29
      refine (apd_any (.slice (some ⟨g, 0, none⟩) 1 1) [(⟨#[]⟩, 6, 9, D1)] (⟨#[]⟩, 6, 9, D1) (⟨#[]⟩, 6, 9, D2) none none 0 0 0 0 [] [] wx ⟨_, 1, rfl, RowROk.one (HC4.out.below hR), (fun e => by cases e), Nat.le_refl _, by decide⟩ (by simp) (hri.out _) (RowROk.nothing _ _ _) (by decide) (RowROk.nothing _ _ _) (by decide)).mono ?_
      intro e w3 hD
      rw [HDB.out] at hD
      rcases hD with ⟨er, h1, -, -⟩ | ⟨z, v, h1, rfl, ho⟩
      · cases h1
      · injection h1 with h1
        subst h1
        exact next_call _ rfl ⟨v, rfl, ho.oneR⟩ hR hR.size ho.bel
    · go_simp; exact next_same _ rfl hd hR
    · obtain ⟨v', h7, ho⟩ := hd
      rw [h7]
      go_simp; exact next_same _ rfl ho hR
    · obtain ⟨v', h7, ho⟩ := hd
      rw [h7]
      go_simp; exact next_same _ rfl rfl hR
    · first | (obtain ⟨hd, -⟩ := hd) | skip
      go_simp; exact next_same _ rfl hd hR
    · go_simp; exact next_same _ rfl rfl hR
  intro y w5 hR5 hy
  obtain ⟨-, -, -, -, -, -, -, -, -, -, ⟨gz, cz, y10, hcz, hcl, hgz⟩, y11, -⟩ := hy
  have y10 : y 10 = _ := y10
  have y11 : y 11 = _ := y11
  rw [y10, y11]
  have HB5 := Lib.hid (below_trans HB4.out HB4.out.size hR5)
  have hcl : ∀ i u, (recCells (⟨#[]⟩, 6, 9, D2))[i]? = some u → w5.cell? ⟨gz, i, none⟩ = some u := hcl
  have z0 := hcl 0 _ rfl
  have z1 := hcl 1 _ rfl
  have z2 := hcl 2 _ rfl
  have z3 := hcl 3 _ rfl
  clear hR5 y10 y11 HC4 HB4 hcl
  go_upto_region 4 with fail
  refine wp_region_goesG app_follows (fun x => by simp [putsF, Act.put]; rfl) w5.heap.size w5
    [isV (errV 6), isV (.int .i64 6), isV (.bool true), isV (.bool true), isV .nilIface, isV (.bool true), isV (.bool true), isV (.bool true), isV (.slice (some ⟨gz, 0, none⟩) 1 cz), isV (.int .i64 1), isV (.bool true), isV (.bool true), isV (.bool true), isV (.slice (some ⟨gz, 0, none⟩) 1 cz), isV (.pointer (some ⟨gz, 0, none⟩)), isV (.agg #[.string ⟨#[]⟩, .int .u16 6, .int .u32 9, .string D2]), isV (.agg #[.string ⟨#[]⟩, .int .u16 6, .int .u32 9, .string D2]), isV (.bool true), isV (.bool true), isV (.bool true)]
    (by kernel_rfl) (by kernel_rfl) (by kernel_rfl) rfl ?_ (Below.refl _ _) ?_ ?_
  · repeat (first | exact trivial | refine ⟨by first | exact isV_stays _, ?_⟩)
  · refine ⟨?_, ?_, ?_, ?_, ?_, ?_, ?_, ?_, ?_, ?_, ?_, ?_, ?_, ?_, ?_, ?_, ?_, ?_, ?_, ?_, trivial⟩
    all_goals
      intro x wx hR hd
      simp at hd ⊢
      try simp [hd]
      have c0 := (hR.cell (p := ⟨gz, 0, none⟩) hgz).trans z0
      have c1 := (hR.cell (p := ⟨gz, 1, none⟩) hgz).trans z1
      have c2 := (hR.cell (p := ⟨gz, 2, none⟩) hgz).trans z2
      have c3 := (hR.cell (p := ⟨gz, 3, none⟩) hgz).trans z3
      have gl : gz < wx.heap.size := Nat.lt_of_lt_of_le hgz hR.size
    all_goals first
      | (go_at_call 9; fail)
      | (unfold errV; go_simp; exact next_same _ rfl rfl hR)
      | (go_simp; exact next_same _ rfl rfl hR)
      | (unfold errV
         go_simp
         go_at_call 9
         refine (number_errno 6 wx (HE.out.keep (Nat.le_refl _) (below_trans HB5.out HB5.out.size hR))).mono ?_
         rintro e w3 ⟨rfl, hb3⟩
         exact next_call _ rfl rfl hR hR.size hb3)
      | (go_simp
         go_at_call 10
         refine (SO2.out wx).mono ?_
         rintro e w3 ⟨rfl, hb3⟩
         exact next_call _ rfl rfl hR hR.size hb3)
      | trace_state
  intro x w6 hR6 hx
  simp [AllWords] at hx ⊢
  have hx19 : x 19 = .bool true := by simp [hx]
  clear hx
  rw [hx19]
  have HB6 := Lib.hid (below_trans HB5.out HB5.out.size hR6)
  clear hR6
  go_wp2_with fail
  go_ret
  exact ⟨rfl, HB6.out⟩
end Go.Proofs.YtpbbnpglcadimaaDoor
namespace Go.Proofs.YtpbbnpglcadimaaDoor
open Go.RowKit
set_option linter.unusedVariables false
set_option linter.unusedSimpArgs false
set_option maxRecDepth 20000
/-- A zone by numbers. -/
def zoneR (o : ByteArray) (n : Nat) (ds : List ActT) (most : Nat) : List RecT := sortedR (undersOf o false ds most ++ [soaR o n])
theorem zoneR_len (o : ByteArray) (n : Nat) (ds : List ActT) (most : Nat) : (zoneR o n ds most).length ≤ most + 1 := by
  have := sortedR_le (undersOf o false ds most ++ [soaR o n])
  rw [List.length_append, undersOf_len] at this
  simp at this
  unfold zoneR; omega
theorem zoneR_rising (o : ByteArray) (n : Nat) (ds : List ActT) (most : Nat) : Rising (zoneR o n ds most) := sortedR_rising _
set_option maxHeartbeats 1600000 in
theorem zone10_any (o : ByteArray) (n : Nat) (hn : n < 4294967296) (A : Option Addr) (m c most : Nat) (ds : List ActT) (w : World) (h : ActsAt w A m ds) (hm : m ≤ maxLen) (hmost : most ≤ 1000) (ho : o.size ≤ maxLen) :
    Calls Tryd.prog 14 #[.string o, .int .u32 (n : Nat), .slice A m c, .int .i64 (most : Nat)] w fun e w' => ∃ v, e = .returned v ∧ OBM 4 w.heap.size w v (zoneR o n ds most).length (flatR (zoneR o n ds most)) w' := by
  obtain ⟨i0, hi, hz0, hz1, hz2⟩ := info_parts4 rec_info
  have UN := Lib.hid (under_any o A m c most false ds w h hm hmost ho)
  have SO := Lib.hid (fun w => soa9_any o n hn w)
  obtain ⟨D, hD⟩ : ∃ D, soaD n = D := ⟨_, rfl⟩
  unfold soaR at SO
  rw [hD] at SO
  have hr : soaR o n = (o, 6, 9, D) := by rw [← hD]; rfl
  obtain ⟨us, hus⟩ : ∃ us, us = undersOf o false ds most := ⟨_, rfl⟩
  have hul : us.length ≤ 1000 := by rw [hus, undersOf_len]; omega
  unfold zoneR
  rw [← hus, hr]
  rw [← hus] at UN
  obtain ⟨Z, hZ⟩ : ∃ Z, Z = us ++ [((o, 6, 9, D) : RecT)] := ⟨_, rfl⟩
  have hZf : flatR Z = flatR us ++ recCells (o, 6, 9, D) := by rw [hZ, flatR_append]; simp [flatR]
  have hZl : Z.length = us.length + 1 := by rw [hZ]; simp
  rw [← hZ]
  have HZF := Lib.hid hZf
  have HZL := Lib.hid hZl
  unfold recV at SO
  clear hr hus h hD hZ hZf hZl
  go_enter Tryd.func14, Tryd.ntmps14
  go_wp2_with fail
  refine UN.out.mono ?_
  rintro e w1 ⟨v, rfl, ho1⟩
  have HO1 := Lib.hid ho1
  clear ho1 UN
  go_wp2_with fail
  refine (SO.out w1).mono ?_
  rintro e w2 ⟨rfl, hb2⟩
  have HB2 := Lib.hid hb2
  have HOX := Lib.hid ((HO1.out.keep hb2 (Nat.le_refl _)).alloc (.cells #[.string o, .int .u16 6, .int .u32 9, .string D] 41))
  have hs := Lib.hid (src_rec (w := w2) (ts := 27) Tryd.underlying27 (o, 6, 9, D))
  clear hb2 HO1
  go_wp2_with (at_builtin; go_loud (refine wpList_append_obm rfl _ _ 27 27 rfl 41 i0 _ 40 Tryd.underlying27 hi hz0 hz1 hz2 rfl HOX.out rfl rfl hs.out rfl (by unfold maxLen; omega) (by omega) ?_))
  intro v' w3 q1 q2 q3 q4
  have Q1 : Hid (OBM 4 w.heap.size w v' Z.length (flatR Z) w3) := Lib.hid (by rw [HZF.out, HZL.out]; exact q1)
  clear q1 q2 q3 q4
  obtain ⟨A3, c3, rfl, hc1, hc2, -⟩ := Q1.out.slice
  have hz : Z.length ≤ 100000 := by have := HZL.out; omega
  have SR := Lib.hid (sorted_any A3 Z.length c3 Z w3 (Q1.out.recs rfl) rfl hz)
  clear hz hc1 hc2
  go_wp2_with fail
  refine SR.out.mono ?_
  rintro e w4 ⟨v4, rfl, ho4⟩
  have HO4 := Lib.hid (ho4.out Q1.out.base Q1.out.bel)
  clear ho4
  go_wp2_with fail
  go_ret
  exact ⟨_, rfl, HO4.out⟩
end Go.Proofs.YtpbbnpglcadimaaDoor
namespace Go.Proofs.YtpbbnpglcadimaaDoor
open Go.RowKit
set_option linter.unusedVariables false
set_option linter.unusedSimpArgs false
theorem foldl_mem9 : ∀ (rs out : List RecT) (q : RecT), q ∈ rs.foldl stepS out → q ∈ out ∨ q ∈ rs
  | [], out, q, h => .inl h
  | r :: rs, out, q, h => by
    rcases foldl_mem9 rs (stepS out r) q h with h | h
    · rcases stepS_cases out r with ⟨h', _⟩ | h'
      · rw [h'] at h; exact .inl h
      · rw [h'] at h
        unfold insR at h
        rcases List.mem_append.1 h with h | h
        · exact .inl ((List.takeWhile_sublist _).mem h)
        · rcases List.mem_cons.1 h with h | h
          · exact .inr (by simp [h])
          · exact .inl ((List.dropWhile_sublist _).mem h)
    · exact .inr (by simp [h])
theorem sortedR_mem (rs : List RecT) (q : RecT) : q ∈ sortedR rs ↔ q ∈ rs :=
  ⟨fun h => by
    rcases foldl_mem9 rs [] q h with h | h
    · cases h
    · exact h, sortedR_has⟩
theorem cmp_lt_irr {a b : RecT} (h1 : cmpR a b < 0) (h2 : cmpR b a < 0) : False := by
  have := cmpR_is.swap a b; omega
theorem cmp_lt_ne {a b : RecT} (h : cmpR a b < 0) : a ≠ b := fun e => by
  subst e; have := cmpR_is.refl a; omega
theorem rising_ext : ∀ {l1 l2 : List RecT}, Rising l1 → Rising l2 → (∀ q, q ∈ l1 ↔ q ∈ l2) → l1 = l2
  | [], [], _, _, _ => rfl
  | [], b :: u, _, _, h => by have := (h b).2 (by simp); cases this
  | a :: t, [], _, _, h => by have := (h a).1 (by simp); cases this
  | a :: t, b :: u, h1, h2, h => by
    have p1 := List.pairwise_cons.1 h1
    have p2 := List.pairwise_cons.1 h2
    have hab : a = b := by
      rcases List.mem_cons.1 ((h a).1 (by simp)) with e | ha
      · exact e
      · rcases List.mem_cons.1 ((h b).2 (by simp)) with e | hb
        · exact e.symm
        · exact (cmp_lt_irr (p2.1 a ha) (p1.1 b hb)).elim
    subst hab
    congr 1
    refine rising_ext p1.2 p2.2 (fun q => ⟨fun hq => ?_, fun hq => ?_⟩)
    · rcases List.mem_cons.1 ((h q).1 (by simp [hq])) with e | e
      · exact absurd e.symm (cmp_lt_ne (p1.1 q hq))
      · exact e
    · rcases List.mem_cons.1 ((h q).2 (by simp [hq])) with e | e
      · exact absurd e.symm (cmp_lt_ne (p2.1 q hq))
      · exact e
/-- The records of one that another one has. -/
def inR (a b : List RecT) : List RecT := a.filter fun r => hasB b r
theorem inR_next {a b : List RecT} {k : Nat} {r : RecT} (h : a[k]? = some r) : inR (a.take (k + 1)) b = inR (a.take k) b ++ if hasB b r then [r] else [] := by
  unfold inR; rw [List.take_add_one, h, List.filter_append]
  congr 1
  simp only [Option.toList_some, List.filter_cons, List.filter_nil]
theorem inR_le (a b : List RecT) : (inR a b).length ≤ a.length := List.length_filter_le _ _
theorem in_wo (a b : List RecT) : (inR a b).length + (woR a b).length = a.length := by
  unfold inR woR
  induction a with
  | nil => rfl
  | cons r a ih =>
    simp only [List.filter_cons]
    cases hasB b r <;> simp <;> omega
theorem inR_mem {a b : List RecT} {q : RecT} : q ∈ inR a b ↔ q ∈ a ∧ q ∈ b := by
  unfold inR; rw [List.mem_filter, hasB_iff]
theorem woR_mem {a b : List RecT} {q : RecT} : q ∈ woR a b ↔ q ∈ a ∧ q ∉ b := by
  unfold woR
  rw [List.mem_filter]
  constructor
  · rintro ⟨h1, h2⟩; exact ⟨h1, hasB_false.1 (by simpa using h2)⟩
  · rintro ⟨h1, h2⟩; exact ⟨h1, by simpa using hasB_false.2 h2⟩
theorem inR_rising {a b : List RecT} (h : Rising a) : Rising (inR a b) := List.Pairwise.sublist List.filter_sublist h
theorem woR_rising {a b : List RecT} (h : Rising a) : Rising (woR a b) := List.Pairwise.sublist List.filter_sublist h
theorem in_swap {a b : List RecT} (h1 : Rising a) (h2 : Rising b) : inR a b = inR b a :=
  rising_ext (inR_rising h1) (inR_rising h2) (fun q => by rw [inR_mem, inR_mem]; exact ⟨fun h => ⟨h.2, h.1⟩, fun h => ⟨h.2, h.1⟩⟩)
theorem in_wo_swap {a b : List RecT} (h1 : Rising a) (h2 : Rising b) : (inR a b).length + (woR b a).length = b.length := by
  rw [in_swap h1 h2]; exact in_wo b a
theorem sorted_join {a b : List RecT} (h1 : Rising a) (h2 : Rising b) : sortedR (inR a b ++ woR b a) = b :=
  rising_ext (sortedR_rising _) h2 (fun q => by
    rw [sortedR_mem, List.mem_append, inR_mem, woR_mem]
    constructor
    · rintro (h | h)
      · exact h.2
      · exact h.1
    · intro h
      by_cases hq : q ∈ a
      · exact .inl ⟨hq, h⟩
      · exact .inr ⟨h, hq⟩)
theorem rising_at {l : List RecT} (h : Rising l) {j k : Nat} {x y : RecT} (hj : l[j]? = some x) (hk : l[k]? = some y) (hjk : j < k) : cmpR x y < 0 := by
  obtain ⟨h1, e1⟩ := List.getElem?_eq_some_iff.1 hj
  obtain ⟨h2, e2⟩ := List.getElem?_eq_some_iff.1 hk
  have := List.pairwise_iff_getElem.1 h j k h1 h2 hjk
  rwa [e1, e2] at this
theorem originB_small (n : Nat) : (originB n).size ≤ 254 := by
  unfold originB
  rw [mk_size]
  exact nameZ_le _ (by intro z hz; simp at hz; omega)
end Go.Proofs.YtpbbnpglcadimaaDoor
namespace Go.Proofs.YtpbbnpglcadimaaDoor
open Go.RowKit
set_option linter.unusedVariables false

def stripL (ls ms : List (List UInt8)) : Option (List (List UInt8)) := if ms.length ≤ ls.length ∧ ls.drop (ls.length - ms.length) = ms then some (ls.take (ls.length - ms.length)) else none
def stripOf (s t : ByteArray) : Option (List UInt8) := match labelsOf s, labelsOf t with | some ls, some ms => (stripL ls ms).map wire | _, _ => none
def pos (ls : List (List UInt8)) (k : Nat) : Nat := (wire (ls.take k)).length
section
variable {ls ms : List (List UInt8)}
theorem stripL_found {k : Nat} (hk : k ≤ ls.length) (h : ls.drop k = ms) : stripL ls ms = some (ls.take k) := by
  have hl : ms.length = ls.length - k := by rw [← h]; simp
  have e : ls.length - ms.length = k := by omega
  unfold stripL
  rw [e, if_pos ⟨by omega, h⟩]
theorem stripL_none (h : ∀ j, j < ls.length → ls.drop j ≠ ms) (hm : ms ≠ []) : stripL ls ms = none := by
  unfold stripL
  rw [if_neg]
  rintro ⟨h1, h2⟩
  have h3 : 0 < ms.length := List.length_pos_iff.2 hm
  exact h (ls.length - ms.length) (by omega) h2
theorem wire_drop (ls : List (List UInt8)) (k : Nat) : (wire ls).drop (pos ls k) = wire (ls.drop k) := by
  have h : wire ls = wire (ls.take k) ++ wire (ls.drop k) := by rw [← wire_append, List.take_append_drop]
  rw [h]
  exact List.drop_left
theorem wire_take (ls : List (List UInt8)) (k : Nat) : (wire ls).take (pos ls k) = wire (ls.take k) := by
  have h : wire ls = wire (ls.take k) ++ wire (ls.drop k) := by rw [← wire_append, List.take_append_drop]
  rw [h]
  exact List.take_left
theorem pos_succ {k : Nat} (hk : k < ls.length) : pos ls (k + 1) = pos ls k + 1 + ls[k].length := by
  unfold pos
  rw [List.take_succ_eq_append_getElem hk, wire_append]
  simp [wire]; omega
theorem pos_le (ls : List (List UInt8)) (k : Nat) : pos ls k ≤ (wire ls).length := by
  have := wire_length_le (ls.take k) (ls.drop k)
  rwa [List.take_append_drop] at this
theorem pos_lt {k : Nat} (hk : k < ls.length) : pos ls k < (wire ls).length := by
  have h1 := pos_succ hk
  have h2 := pos_le ls (k + 1)
  omega
theorem pos_all : pos ls ls.length = (wire ls).length := by unfold pos; rw [List.take_length]
theorem wire_at {k : Nat} (hk : k < ls.length) : (wire ls)[pos ls k]'(pos_lt hk) = UInt8.ofNat ls[k].length := by
  have h1 := wire_drop ls k
  rw [List.drop_eq_getElem_cons hk, wire_cons, List.drop_eq_getElem_cons (pos_lt hk)] at h1
  injection h1
theorem wire_inj {a b : List (List UInt8)} (ha : ∀ x ∈ a, okLabel x = true) (hb : ∀ x ∈ b, okLabel x = true) (h : wire a = wire b) : a = b := by
  have h1 := parseL_wire a ha
  rw [h, parseL_wire b hb] at h1
  injection h1 with h1
  exact h1.symm
theorem wire_nil_iff : wire ls = [] ↔ ls = [] := by
  cases ls with
  | nil => simp [wire]
  | cons a l => simp [wire]
end

/-- What the walk asks of a name at a label's beginning. -/
theorem strip_at {s t : ByteArray} {ls ms : List (List UInt8)} (hl : labelsOf s = some ls) (hm : labelsOf t = some ms) {k : Nat} (hk : k < ls.length) :
    ∃ hp : pos ls k < s.size, (s[pos ls k]'hp).toNat = ls[k].length ∧ pos ls (k + 1) = pos ls k + 1 + ls[k].length ∧ pos ls (k + 1) ≤ s.size ∧ s.size ≤ 254 ∧
      ((s.extract (pos ls k) s.size).toList == t.toList) = decide (ls.drop k = ms) ∧ Value.string (s.extract 0 (pos ls k)) = sv (wire (ls.take k)) := by
  have h1 := (nameLabels_iff _ _).1 hl
  have h2 := (nameLabels_iff _ _).1 hm
  have hsz : s.data.toList.length = s.size := by simp
  have hlen : s.size = (wire ls).length := by rw [← hsz, h1.2.1]
  have hp : pos ls k < s.size := by rw [hlen]; exact pos_lt hk
  have hok := h1.2.2 ls[k] (List.getElem_mem hk)
  simp only [okLabel, Bool.and_eq_true, decide_eq_true_eq] at hok
  refine ⟨hp, ?_, pos_succ hk, by rw [hlen]; exact pos_le _ _, by rw [← hsz]; exact h1.1, ?_, ?_⟩
  · rw [← toList_get s _ hp]
    have h3 := wire_at hk
    simp only [h1.2.1, h3]
    exact UInt8.toNat_ofNat_of_lt' (by have : UInt8.size = 256 := rfl; omega)
  · rw [ByteArray.toList_eq, ByteArray.toList_eq, h2.2.1]
    have h3 : (s.extract (pos ls k) s.size).data.toList = wire (ls.drop k) := by
      rw [← wire_drop, ← h1.2.1]
      simp only [ByteArray.data_extract, Array.toList_extract, List.extract_eq_take_drop]
      exact List.take_of_length_le (by simp)
    rw [h3]
    by_cases hd : ls.drop k = ms
    · rw [hd]; simp
    · have : wire (ls.drop k) ≠ wire ms := fun h => hd (wire_inj (fun x hx => h1.2.2 x (List.mem_of_mem_drop hx)) h2.2.2 h)
      simp [hd, this]
  · rw [ba_extract, ← wire_take, ← h1.2.1]
    congr 1

set_option maxHeartbeats 3200000 in
theorem strip_any (s t : ByteArray) (w : World) (hs : s.size ≤ maxLen) (ht : t.size ≤ maxLen) :
    Calls Tryd.prog 62 #[.string s, .string t] w fun e w' => e = .returned (.tuple #[sv ((stripOf s t).getD []), .bool (stripOf s t).isSome]) ∧ Below w.heap.size w w' := by
  have hms := fun w => may_any s w hs
  have hmt := fun w => may_any t w ht
  cases hl : labelsOf s with
  | none =>
    have hst : stripOf s t = none := by unfold stripOf; rw [hl]
    rw [hst]
    rw [hl] at hms
    have HS := Lib.hid hms
    clear hms hmt hl hst
    go_enter Tryd.func62, Tryd.ntmps62
    go_wp2_with fail
    refine (HS.out _).mono ?_
    rintro e w1 ⟨rfl, hb⟩
    go_wp2_with fail
    go_ret2
    exact ⟨rfl, hb⟩
  | some ls =>
    cases hm : labelsOf t with
    | none =>
      have hst : stripOf s t = none := by unfold stripOf; rw [hl, hm]
      rw [hst]
      rw [hl] at hms
      rw [hm] at hmt
      have HS := Lib.hid hms
      have HT := Lib.hid hmt
      clear hms hmt hl hst
      go_enter Tryd.func62, Tryd.ntmps62
      go_wp2_with fail
      refine (HS.out _).mono ?_
      rintro e w1 ⟨rfl, hb1⟩
      go_wp2_with fail
      refine (HT.out _).mono ?_
      rintro e w2 ⟨rfl, hb2⟩
      have hb := hb1.trans (hb2.mono hb1.size)
      clear hb1 hb2
      go_wp2_with fail
      go_ret2
      exact ⟨rfl, hb⟩
    | some ms =>
      have hst : stripOf s t = (stripL ls ms).map wire := by unfold stripOf; rw [hl, hm]
      have hat := fun k hk => @strip_at s t ls ms hl hm k hk
      have h1 := (nameLabels_iff _ _).1 hl
      have h2 := (nameLabels_iff _ _).1 hm
      have hsz : s.data.toList.length = s.size := by simp
      have htz : t.data.toList.length = t.size := by simp
      have hlen : s.size = (wire ls).length := by rw [← hsz, h1.2.1]
      have hall : pos ls ls.length = s.size := by rw [hlen]; exact pos_all
      have hsv : sv (wire ls) = .string s := by rw [← h1.2.1, sv_bytes]
      have htm : t.data.toList = wire ms := h2.2.1
      rw [hl] at hms
      rw [hm] at hmt
      have HS := Lib.hid hms
      have HT := Lib.hid hmt
      have HR := Lib.hid hst
      have HA := Lib.hid hat
      have HV := Lib.hid hsv
      have HM := Lib.hid htm
      clear hms hmt hl hm hst h1 h2 hsz hlen hat hsv htm
      go_enter Tryd.func62, Tryd.ntmps62
      go_wp2_with fail
      refine (HS.out _).mono ?_
      rintro e w1 ⟨rfl, hb1⟩
      go_wp2_with fail
      refine (HT.out _).mono ?_
      rintro e w2 ⟨rfl, hb2⟩
      have hb := hb1.trans (hb2.mono hb1.size)
      clear hb1 hb2
      go_wp2_with fail
      go_loop [6] (fun i => ∃ k : Nat, i = .int .i64 (pos ls k) ∧ k ≤ ls.length ∧ Hid (∀ j, j < k → ls.drop j ≠ ms)) (fun i => s.size - (intOf i).toNat)
      case atStart => exact ⟨0, by simp [pos, wire], Nat.zero_le _, Lib.hid (fun j hj => absurd hj (Nat.not_lt_zero _))⟩
      case round =>
        obtain ⟨k, rfl, hk, hno⟩ := hrel
        by_cases hlt : k < ls.length
        · obtain ⟨hp, hbyte, hsucc, hle, h254, htest, hres⟩ := HA.out k hlt
          by_cases hd : ls.drop k = ms
          · have hf := stripL_found hk hd
            rw [decide_eq_true hd] at htest
            have hp' : ((pos ls k : Nat) : Int) < s.size := by omega
            have HF := Lib.hid hf
            have HQ := Lib.hid hres
            clear hf hres hd hsucc hbyte
            go_wp2_with fail
            go_ret2
            refine ⟨?_, hb⟩
            rw [HR.out, HF.out]
            simp only [Option.map_some, Option.getD_some, Option.isSome_some]
            rw [← HQ.out]
            rfl
          · rw [decide_eq_false hd] at htest
            have hp' : ((pos ls k : Nat) : Int) < s.size := by omega
            have HD := Lib.hid hd
            have HU := Lib.hid hsucc
            have i1 : IntKind.i64.wrap (ls[k].length : Int) = ls[k].length := IntWalk.i64_in _ (by omega)
            generalize ls[k].length = m at *
            clear hres hd
            go_wp2_with fail
            go_round
            case rel => exact ⟨k + 1, by rw [HU.out]; go_num, by omega, Lib.hid (fun j hj => by
              rcases Nat.lt_or_ge j k with h | h
              · exact hno.out j h
              · obtain rfl : j = k := by omega
                exact HD.out)⟩
            case measure => simp [intOf]; omega
        · obtain rfl : k = ls.length := by omega
          have hp' : ¬ ((pos ls ls.length : Nat) : Int) < s.size := by omega
          by_cases hm0 : ms = []
          · have hf := stripL_found (Nat.le_refl ls.length) (show ls.drop ls.length = ms by rw [hm0]; simp)
            rw [List.take_length] at hf
            have ht0 : t.size = 0 := by rw [← htz, HM.out, hm0]; rfl
            have he : t = ⟨#[]⟩ := by
              apply ByteArray.ext
              apply Array.eq_empty_of_size_eq_zero
              exact ht0
            subst he
            have HF := Lib.hid hf
            clear hf
            go_wp2_with fail
            go_ret2
            refine ⟨?_, hb⟩
            rw [HR.out, HF.out]
            simp only [Option.map_some, Option.getD_some, Option.isSome_some]
            rw [HV.out]
            rfl
          · have hf := stripL_none hno.out hm0
            have ht0 : t.size ≠ 0 := by
              rw [← htz, HM.out]
              intro h
              exact hm0 (wire_nil_iff.1 (List.eq_nil_of_length_eq_zero h))
            have hne := str_empty t ht0
            have hne' := str_empty' t ht0
            have HF := Lib.hid hf
            clear hf
            go_wp2_with fail
            go_ret2
            refine ⟨?_, hb⟩
            rw [HR.out, HF.out]
            rfl

theorem below_any (s t : ByteArray) (w : World) (hs : s.size ≤ maxLen) (ht : t.size ≤ maxLen) :
    Calls Tryd.prog 41 #[.string s, .string t] w fun e w' => e = .returned (.bool (stripOf s t).isSome) ∧ Below w.heap.size w w' := by
  go_enter Tryd.func41, Tryd.ntmps41
  go_wp2_with (go_at_call 62; refine (strip_any s t _ hs ht).mono ?_; rintro e w1 ⟨rfl, hb⟩)
  go_ret
  exact ⟨rfl, hb⟩
end Go.Proofs.YtpbbnpglcadimaaDoor
namespace Go.Proofs.YtpbbnpglcadimaaDoor
open Go.RowKit
set_option linter.unusedVariables false
set_option linter.unusedSimpArgs false
set_option maxRecDepth 20000
/-- The next text's place. -/
def stepT (s : ByteArray) (p : Nat) : Nat := if h : p < s.size then p + 1 + s[p].toNat else p
def runT (s : ByteArray) : Nat → Nat
  | 0 => 0
  | k + 1 => stepT s (runT s k)
theorem runT_stays {s : ByteArray} {k : Nat} (h : ¬ runT s k < s.size) : ∀ j, runT s (k + j) = runT s k
  | 0 => rfl
  | j + 1 => by
    have ih := runT_stays h j
    show stepT s (runT s (k + j)) = _
    rw [ih]; unfold stepT; rw [dif_neg h]
theorem runT_next {s : ByteArray} {k p : Nat} (h : runT s k = p) (hp : p < s.size) : runT s (k + 1) = p + 1 + s[p].toNat := by
  show stepT s (runT s k) = _
  subst h
  unfold stepT; rw [dif_pos hp]
theorem texts_any (s : ByteArray) (w : World) (hs : s.size ≤ 512) :
    Calls Tryd.prog 78 #[.string s] w fun e w' => e = .returned (.bool (decide (s.size ≠ 0) && decide (runT s s.size = s.size))) ∧ Below w.heap.size w w' := by
  obtain ⟨E, hE⟩ : ∃ E, runT s s.size = E := ⟨_, rfl⟩
  rw [hE]
  have HE := Lib.hid hE
  clear hE
  go_enter Tryd.func78, Tryd.ntmps78
  go_wp2_with fail
  go_loop [3] (fun i => ∃ p k : Nat, p ≤ s.size + 256 ∧ i = .int .i64 p ∧ k ≤ p ∧ k ≤ s.size ∧ Hid (runT s k = p)) (fun i => s.size + 256 - (intOf i).toNat)
  case atStart => exact ⟨0, 0, Nat.zero_le _, rfl, Nat.le_refl _, Nat.zero_le _, Lib.hid rfl⟩
  case round =>
    obtain ⟨p, k, hp, rfl, hkp, hks, hr⟩ := hrel
    by_cases hlt : p < s.size
    · have hlt' : (p : Int) < s.size := by omega
      have hnx := runT_next hr.out hlt
      have hge : ¬ (s.size : Int) ≤ p := by omega
      have hp0 : ¬ (p : Int) < 0 := by omega
      obtain ⟨x, hx⟩ : ∃ x, s[p] = x := ⟨_, rfl⟩
      obtain ⟨q, hxq⟩ : ∃ q, x.toNat = q := ⟨_, rfl⟩
      have hq256 : q < 256 := by rw [← hxq]; exact UInt8.toNat_lt _
      rw [hx, hxq] at hnx
      have HNX := Lib.hid hnx
      clear hnx
      have hw1 : IntKind.i64.wrap (q : Int) = q := by rw [IntKind.wrap_i64]; omega
      have hw2 : IntKind.i64.wrap (1 + (q : Int)) = 1 + q := by rw [IntKind.wrap_i64]; omega
      have hw3 : IntKind.i64.wrap ((p : Int) + (1 + (q : Int))) = ((p + 1 + q : Nat) : Int) := by rw [IntKind.wrap_i64]; omega
      have hi3 : ((p : Int) + (1 + (q : Int))) = ((p + 1 + q : Nat) : Int) := by omega
      go_wp2_with fail
      go_round
      case rel => exact ⟨p + 1 + q, k + 1, by omega, by first | rfl | rw [hi3] | rw [hw3] | go_num, by omega, by omega, HNX⟩
      case measure => simp [intOf]; omega
    · have hlt' : ¬ (p : Int) < s.size := by omega
      have hfin : runT s s.size = p := by
        obtain ⟨j, hj⟩ : ∃ j, s.size = k + j := ⟨s.size - k, by omega⟩
        rw [hj, runT_stays (by rw [hr.out]; exact hlt), hr.out]
      obtain rfl : E = p := HE.out.symm.trans hfin
      clear hfin
      by_cases h0 : s.size = 0
      · obtain rfl : s = ⟨#[]⟩ := by
          cases s with | mk a => simp [ByteArray.size] at h0; subst h0; rfl
        go_wp2_with fail
        go_ret
        exact ⟨by simp, Below.refl _ _⟩
      · have hse := str_empty s h0
        by_cases he : E = s.size
        · have heq : ((E : Int) == (s.size : Int)) = true := by simp [he]
          go_wp2_with fail
          go_ret
          exact ⟨by simp [h0, he], Below.refl _ _⟩
        · have heq : ((E : Int) == (s.size : Int)) = false := by simp; omega
          go_wp2_with fail
          go_ret
          exact ⟨by simp [h0, he], Below.refl _ _⟩
theorem cutSoa_some (s : ByteArray) (hs : s.size ≤ 100000) : ∃ q : Bool, ∀ w, Calls Tryd.prog 77 #[.string s] w fun e w' => (∃ a b c, e = .returned (.tuple #[a, b, c, .bool q])) ∧ Below w.heap.size w w' := by
  have key : ∀ w, Calls Tryd.prog 77 #[.string s] w fun e w' => (∃ a b c q, e = .returned (.tuple #[a, b, c, .bool q]) ∧ (q = true ↔ ∃ a b t, IsSoa s.data.toList a b t)) ∧ Below w.heap.size w w' := by
    intro w
    have HC := Lib.hid (fun w => cutp_any s w (by omega))
    go_enter Tryd.func77, Tryd.ntmps77
    go_wp2_with fail
    refine (HC.out w).mono ?_
    rintro e w1 ⟨hb1, ⟨n, t, hnt, rfl⟩ | ⟨hno, rfl⟩⟩
    · have HB1 := Lib.hid hb1
      have HNT := Lib.hid hnt
      have htl : t.length ≤ 100000 := by have := congrArg List.length hnt.2; simp at this; omega
      have HC2 := Lib.hid (fun w => cutp_any ⟨t.toArray⟩ w (by show t.toArray.size ≤ _; simp; omega))
      clear hb1 hnt
      rw [show sv t = .string ⟨t.toArray⟩ from rfl]
      go_wp2_with fail
      refine (HC2.out w1).mono ?_
      rintro e w2 ⟨hb2, ⟨n2, t2, hnt2, rfl⟩ | ⟨hno, rfl⟩⟩
      · have hnt2' : IsCut t n2 t2 := by simpa using hnt2
        have HB2 := Lib.hid (below_trans HB1.out HB1.out.size hb2)
        have HNT2 := Lib.hid hnt2'
        have htl2 : t2.length ≤ 100000 := by have := congrArg List.length hnt2'.2; simp at this; omega
        clear hb2 hnt2 hnt2'
        obtain ⟨T, hT⟩ : ∃ T : ByteArray, T = ⟨t2.toArray⟩ := ⟨_, rfl⟩
        have hTs : T.size = t2.length := by rw [hT]; simp [ByteArray.size]
        rw [show sv t2 = .string ⟨t2.toArray⟩ from rfl, ← hT]
        by_cases h20 : T.size = 20
        · have heq : ((T.size : Int) != 20) = false := by simp [h20]
          go_wp2_with fail
          refine bodyPost_ret (v := .tuple #[sv n, sv n2, .string T, .bool true]) (by simp [results, Tryd.results77, go_sem, hT]) rfl ?_
          exact ⟨⟨_, _, _, _, rfl, by simp; exact ⟨n, n2, t2, by have h := HNT.out; have h2 := HNT2.out; exact ⟨⟨h.1, by rw [h.2, h2.2]⟩, h2.1, by omega⟩⟩⟩, HB2.out⟩
        · have heq : ((T.size : Int) != 20) = true := by simp; omega
          go_wp2_with fail
          refine bodyPost_ret (v := .tuple #[.string ⟨#[]⟩, .string ⟨#[]⟩, .string ⟨#[]⟩, .bool false]) (by simp [results, Tryd.results77, go_sem]) rfl ?_
          refine ⟨⟨_, _, _, _, rfl, by
            simp
            intro a b t' hh
            have h1 := At.one hh.1 HNT.out
            have h2 := At.one (show IsCut t b t' from ⟨hh.2.1, h1.2.symm⟩) HNT2.out
            have := hh.2.2
            rw [h2.2] at this
            omega⟩, HB2.out⟩
      · have hno' : ∀ n2 t2, ¬ IsCut t n2 t2 := by simpa using hno
        have HB2 := Lib.hid (below_trans HB1.out HB1.out.size hb2)
        have HNO := Lib.hid hno'
        clear hb2 hno hno'
        go_wp2_with fail
        refine bodyPost_ret (v := .tuple #[.string ⟨#[]⟩, .string ⟨#[]⟩, .string ⟨#[]⟩, .bool false]) (by simp [results, Tryd.results77, go_sem]) rfl ?_
        refine ⟨⟨_, _, _, _, rfl, by
          simp
          intro a b t' hh
          have h1 := At.one hh.1 HNT.out
          exact HNO.out b t' ⟨hh.2.1, h1.2.symm⟩⟩, HB2.out⟩
    · have HB1 := Lib.hid hb1
      have HNO := Lib.hid hno
      clear hb1 hno
      go_wp2_with fail
      refine bodyPost_ret (v := .tuple #[.string ⟨#[]⟩, .string ⟨#[]⟩, .string ⟨#[]⟩, .bool false]) (by simp [results, Tryd.results77, go_sem]) rfl ?_
      exact ⟨⟨_, _, _, _, rfl, by simp; intro a b t' hh; exact HNO.out _ _ hh.1⟩, HB1.out⟩
  by_cases hq : ∃ a b t, IsSoa s.data.toList a b t
  · refine ⟨true, fun w => (key w).mono ?_⟩
    rintro e w' ⟨⟨a, b, c, q, rfl, h⟩, hb⟩
    rw [h.2 hq]
    exact ⟨⟨_, _, _, rfl⟩, hb⟩
  · refine ⟨false, fun w => (key w).mono ?_⟩
    rintro e w' ⟨⟨a, b, c, q, rfl, h⟩, hb⟩
    have : q = false := by cases q with | false => rfl | true => exact absurd (h.1 rfl) hq
    rw [this]
    exact ⟨⟨_, _, _, rfl⟩, hb⟩
theorem rmay_any (t : Int) (ht : 0 ≤ t ∧ t < 65536) (d : ByteArray) (hd : d.size ≤ 100000) : ∃ q : Bool, ∀ w, Calls Tryd.prog 61 #[.int .u16 t, .string d] w fun e w' => e = .returned (.bool q) ∧ Below w.heap.size w w' := by
  by_cases h1 : t = 1
  · subst h1
    refine ⟨decide (d.size = 4), fun w => ?_⟩
    have heq : ((d.size : Int) == 4) = decide (d.size = 4) := by by_cases h : d.size = 4 <;> simp [h]; omega
    go_enter Tryd.func61, Tryd.ntmps61
    go_wp2_with fail
    go_ret
    exact ⟨rfl, Below.refl _ _⟩
  have e1 : (t == 1) = false := by simp; omega
  by_cases h28 : t = 28
  · subst h28
    refine ⟨decide (d.size = 16), fun w => ?_⟩
    have heq : ((d.size : Int) == 16) = decide (d.size = 16) := by by_cases h : d.size = 16 <;> simp [h]; omega
    go_enter Tryd.func61, Tryd.ntmps61
    go_wp2_with fail
    go_ret
    exact ⟨rfl, Below.refl _ _⟩
  have e28 : (t == 28) = false := by simp; omega
  by_cases h2 : t = 2
  · subst h2
    refine ⟨(labelsOf d).isSome, fun w => ?_⟩
    have HM := Lib.hid (fun w => may_any d w (by unfold maxLen; omega))
    go_enter Tryd.func61, Tryd.ntmps61
    go_wp2_with fail
    refine (HM.out w).mono ?_
    rintro e w1 ⟨rfl, hb⟩
    go_wp2_with fail
    go_ret
    exact ⟨rfl, hb⟩
  have e2 : (t == 2) = false := by simp; omega
  by_cases h5 : t = 5
  · subst h5
    refine ⟨(labelsOf d).isSome, fun w => ?_⟩
    have HM := Lib.hid (fun w => may_any d w (by unfold maxLen; omega))
    go_enter Tryd.func61, Tryd.ntmps61
    go_wp2_with fail
    refine (HM.out w).mono ?_
    rintro e w1 ⟨rfl, hb⟩
    go_wp2_with fail
    go_ret
    exact ⟨rfl, hb⟩
  have e5 : (t == 5) = false := by simp; omega
  by_cases h6 : t = 6
  · subst h6
    obtain ⟨q, hq⟩ := cutSoa_some d hd
    refine ⟨q, fun w => ?_⟩
    have HM := Lib.hid hq
    clear hq
    go_enter Tryd.func61, Tryd.ntmps61
    go_wp2_with fail
    refine (HM.out w).mono ?_
    rintro e w1 ⟨⟨a, b, c, rfl⟩, hb⟩
    go_wp2_with fail
    go_ret
    exact ⟨rfl, hb⟩
  have e6 : (t == 6) = false := by simp; omega
  by_cases h16 : t = 16
  · subst h16
    by_cases hl : d.size ≤ 512
    · refine ⟨decide (d.size ≠ 0) && decide (runT d d.size = d.size), fun w => ?_⟩
      have HM := Lib.hid (fun w => texts_any d w hl)
      obtain ⟨Q, hQ⟩ : ∃ Q, (decide (d.size ≠ 0) && decide (runT d d.size = d.size)) = Q := ⟨_, rfl⟩
      rw [hQ] at HM ⊢
      clear hQ
      have hl' : (d.size : Int) ≤ 512 := by omega
      go_enter Tryd.func61, Tryd.ntmps61
      go_wp2_with fail
      refine (HM.out w).mono ?_
      rintro e w1 ⟨rfl, hb⟩
      go_wp2_with fail
      go_ret
      exact ⟨rfl, hb⟩
    · refine ⟨false, fun w => ?_⟩
      have hl' : ¬ (d.size : Int) ≤ 512 := by omega
      have hl2 : (512 : Int) < d.size := by omega
      go_enter Tryd.func61, Tryd.ntmps61
      go_wp2_with fail
      go_ret
      exact ⟨rfl, Below.refl _ _⟩
  have e16 : (t == 16) = false := by simp; omega
  refine ⟨decide (d.size ≤ 512), fun w => ?_⟩
  have heq : decide ((d.size : Int) ≤ 512) = decide (d.size ≤ 512) := by by_cases h : d.size ≤ 512 <;> simp [h] <;> omega
  go_enter Tryd.func61, Tryd.ntmps61
  go_wp2_with fail
  go_ret
  exact ⟨rfl, Below.refl _ _⟩
theorem mayrec_any (r : RecT) (ht : 0 ≤ r.2.1 ∧ r.2.1 < 65536) (hn : r.1.size ≤ 100000) (hd : r.2.2.2.size ≤ 100000) : ∃ q : Bool, ∀ w, Calls Tryd.prog 40 #[recV r] w fun e w' => e = .returned (.bool q) ∧ Below w.heap.size w w' := by
  obtain ⟨m, hm⟩ : ∃ m, (labelsOf r.1).isSome = m := ⟨_, rfl⟩
  have HM := Lib.hid (fun w => may_any r.1 w (by unfold maxLen; omega))
  rw [hm] at HM
  clear hm
  unfold recV
  cases m with
  | false =>
    refine ⟨false, fun w => ?_⟩
    go_enter Tryd.func40, Tryd.ntmps40
    go_wp2_with fail
    refine (HM.out _).mono ?_
    rintro e w1 ⟨rfl, hb⟩
    have HB := Lib.hid (below_alloc _ (Below.refl _ _) (Nat.le_refl _) hb)
    clear hb
    go_wp2_with fail
    go_ret
    exact ⟨rfl, HB.out⟩
  | true =>
    by_cases h41 : r.2.1 = 41
    · have e41 : (r.2.1 != 41) = false := by simp [h41]
      clear h41
      refine ⟨false, fun w => ?_⟩
      go_enter Tryd.func40, Tryd.ntmps40
      go_wp2_with fail
      refine (HM.out _).mono ?_
      rintro e w1 ⟨rfl, hb⟩
      have hc := (Cs.new w #[.string r.1, .int .u16 r.2.1, .int .u32 r.2.2.1, .string r.2.2.2] 41 [.string r.1, .int .u16 r.2.1, .int .u32 r.2.2.1, .string r.2.2.2]).below hb
      have c1 := hc.get 1 _
      have c3 := hc.get 3 _
      have HB := Lib.hid (below_alloc _ (Below.refl _ _) (Nat.le_refl _) hb)
      clear hb hc
      go_wp2_with fail
      go_ret
      exact ⟨rfl, HB.out⟩
    · have e41 : (r.2.1 != 41) = true := by simp [h41]
      obtain ⟨q, hq⟩ := rmay_any r.2.1 ht r.2.2.2 hd
      have HQ := Lib.hid hq
      clear hq
      refine ⟨q, fun w => ?_⟩
      go_enter Tryd.func40, Tryd.ntmps40
      go_wp2_with fail
      refine (HM.out _).mono ?_
      rintro e w1 ⟨rfl, hb⟩
      have hc := (Cs.new w #[.string r.1, .int .u16 r.2.1, .int .u32 r.2.2.1, .string r.2.2.2] 41 [.string r.1, .int .u16 r.2.1, .int .u32 r.2.2.1, .string r.2.2.2]).below hb
      have c1 := hc.get 1 _
      have c3 := hc.get 3 _
      have HB := Lib.hid (below_alloc _ (Below.refl _ _) (Nat.le_refl _) hb)
      clear hb hc
      go_wp2_with fail
      refine (HQ.out w1).mono ?_
      rintro e w2 ⟨rfl, hb2⟩
      have HB2 := Lib.hid (below_trans HB.out HB.out.size hb2)
      clear hb2
      go_wp2_with fail
      go_ret
      exact ⟨rfl, HB2.out⟩
end Go.Proofs.YtpbbnpglcadimaaDoor
namespace Go.Proofs.YtpbbnpglcadimaaDoor
open Go.RowKit
set_option linter.unusedVariables false
set_option linter.unusedSimpArgs false
set_option maxRecDepth 20000
/-- May a record be in a transfer of a name's zone? -/
def admB (m : RecT → Bool) (o : ByteArray) (r : RecT) : Bool := m r && ((stripOf r.1 o).isSome && !(soaB r && !(r.1.toList == o.toList)))
/-- May records be a transfer at all? -/
def admR (m : RecT → Bool) (o : ByteArray) (rs : List RecT) : Bool := rs.all (admB m o) && (match rs with | [] => false | r :: _ => soaB r)
theorem all_next {rs : List RecT} {k : Nat} {r : RecT} (p : RecT → Bool) (hr : rs[k]? = some r) : (rs.take (k + 1)).all p = ((rs.take k).all p && p r) := by rw [List.take_add_one, hr]; simp
theorem all_stop {rs : List RecT} {k : Nat} {r : RecT} (p : RecT → Bool) (hr : rs[k]? = some r) (hp : p r = false) : rs.all p = false := by
  rw [List.all_eq_false]
  exact ⟨r, List.mem_of_getElem? hr, by rw [hp]; simp⟩
set_option maxHeartbeats 3200000 in
theorem admissible_any (m : RecT → Bool) (o : ByteArray) (A : Option Addr) (n c : Nat) (rs : List RecT) (w : World) (h : Recs w A rs) (hl : rs.length = n) (hn : n ≤ 1048576) (ho : o.size ≤ maxLen) (hz : ∀ r ∈ rs, r.1.size ≤ maxLen)
    (hm : ∀ r ∈ rs, ∀ w, Calls Tryd.prog 40 #[recV r] w fun e w' => e = .returned (.bool (m r)) ∧ Below w.heap.size w w') :
    Calls Tryd.prog 21 #[.string o, .slice A n c] w fun e w' => e = .returned (.bool (admR m o rs)) ∧ Below w.heap.size w w' := by
  obtain ⟨R, hRR⟩ : ∃ R, admR m o rs = R := ⟨_, rfl⟩
  rw [hRR]
  have HRR := Lib.hid hRR
  have H := Lib.hid h
  have HL := Lib.hid hl
  have HM := Lib.hid hm
  have HZ := Lib.hid hz
  have HO := Lib.hid ho
  clear hRR h hl hm hz ho
  go_enter Tryd.func21, Tryd.ntmps21
  go_wp2_with fail
  go_loopw [9] (fun i wr => ∃ k : Nat, k ≤ n ∧ i = .int .i64 k ∧ Hid ((rs.take k).all (admB m o) = true) ∧ Hid (Below w.heap.size w wr)) (fun i _ => n - (intOf i).toNat)
  case atStart => exact ⟨0, Nat.zero_le _, rfl, Lib.hid (by simp), Lib.hid (Below.refl _ _)⟩
  case round =>
    obtain ⟨k, hk, rfl, HA, HB⟩ := hrel
    by_cases hlt : k < n
    · have hlt' : (k : Int) < n := by omega
      obtain ⟨r, hr⟩ : ∃ r, rs[k]? = some r := ⟨_, List.getElem?_eq_getElem (by rw [HL.out]; omega)⟩
      have hmem := List.mem_of_getElem? hr
      obtain ⟨bb, off, rfl, hbb, y0, y1, y2, y3⟩ := (H.out.below HB.out) k _ hr
      have CM := Lib.hid (HM.out r hmem)
      have CB := Lib.hid (fun w => below_any r.1 o w (HZ.out r hmem) HO.out)
      have IS := Lib.hid (fun w => isSoa_any r w)
      have hnx := all_next (admB m o) hr
      have hstop := all_stop (admB m o) hr
      have hadm : admB m o r = admB m o r := rfl
      unfold admB at hadm
      have HNX := Lib.hid hnx
      have HST := Lib.hid hstop
      have HAD : Hid (admB m o r = (m r && ((stripOf r.1 o).isSome && !(soaB r && !(r.1.toList == o.toList))))) := Lib.hid rfl
      obtain ⟨r0, r1, r2, r3⟩ := r
      simp only at y0 y1 y2 y3 CB HAD
      unfold recV at CM IS
      simp only at CM IS
      have hC := Cs.new wr #[.string r0, .int .u16 r1, .int .u32 r2, .string r3] 41 [.string r0, .int .u16 r1, .int .u32 r2, .string r3]
      have hB5 := HB.out.alloc HB.out.size (.cells #[.string r0, .int .u16 r1, .int .u32 r2, .string r3] 41)
      have H5 := Lib.hid (And.intro hC hB5)
      clear hmem hr hnx hstop hadm hC hB5
      go_upto_region 4 with fail
      obtain ⟨hC, hB5⟩ := H5.out
      generalize wr.alloc (.cells #[.string r0, .int .u16 r1, .int .u32 r2, .string r3] 41) = w5 at *
      obtain ⟨g, hg⟩ : ∃ g, g = wr.heap.size := ⟨_, rfl⟩
      rw [← hg] at hC ⊢
      have HC := Lib.hid hC
      have HB5 := Lib.hid hB5
      have c0 := hC.get 0 _
      have c1 := hC.get 1 _
      have c2 := hC.get 2 _
      have c3 := hC.get 3 _
      clear hC hB5 hg H5 y0 y1 y2 y3
      cases em : m (r0, r1, r2, r3) with
      | false =>
        have hR0 : R = false := by rw [← HRR.out]; unfold admR; rw [HST.out (by rw [HAD.out, em]; rfl)]; rfl
        subst hR0
        rw [em] at CM
        go_wp2_with fail
        refine (CM.out _).mono ?_
        rintro e w6 ⟨rfl, hb6⟩
        have HB6 := Lib.hid (below_trans HB5.out HB5.out.size hb6)
        clear hb6 c0 c1 c2 c3
        go_wp2_with fail
        go_ret
        exact ⟨rfl, HB6.out⟩
      | true =>
        have HEM := Lib.hid em
        rw [em] at CM
        clear em
        go_wp2_with fail
        refine (CM.out _).mono ?_
        rintro e w6 ⟨rfl, hb6⟩
        have HB6 := Lib.hid (below_trans HB5.out HB5.out.size hb6)
        have HC6 := Lib.hid (HC.out.below hb6)
        clear hb6 c0 c1 c2 c3
        have c0 := HC6.out.get 0 _
        go_wp2_with fail
        refine (CB.out _).mono ?_
        rintro e w7 ⟨rfl, hb7⟩
        have HB7 := Lib.hid (below_trans HB6.out HB6.out.size hb7)
        have HC7 := Lib.hid (HC6.out.below hb7)
        clear hb7 c0
        cases eb : (stripOf r0 o).isSome with
        | false =>
          have hR0 : R = false := by rw [← HRR.out]; unfold admR; rw [HST.out (by rw [HAD.out, HEM.out, eb]; rfl)]; rfl
          subst hR0
          go_wp2_with fail
          go_ret
          exact ⟨rfl, HB7.out⟩
        | true =>
          have HEB := Lib.hid eb
          clear eb
          have c0 := HC7.out.get 0 _
          have c1 := HC7.out.get 1 _
          have c2 := HC7.out.get 2 _
          have c3 := HC7.out.get 3 _
          go_wp2_with fail
          refine (IS.out _).mono ?_
          rintro e w8 ⟨rfl, hb8⟩
          have HB8 := Lib.hid (below_trans HB7.out HB7.out.size hb8)
          have HC8 := Lib.hid (HC7.out.below hb8)
          clear hb8 c0 c1 c2 c3
          have c0 := HC8.out.get 0 _
          cases es : soaB (r0, r1, r2, r3) with
          | false =>
            have HOK := Lib.hid (show admB m o (r0, r1, r2, r3) = true by rw [HAD.out, HEM.out, HEB.out, es]; rfl)
            clear es
            go_wp2_with fail
            go_round
            case rel => exact ⟨k + 1, by omega, by go_num, Lib.hid (by rw [HNX.out, HA.out, HOK.out]; rfl), HB8⟩
            case measure => simp [intOf]; omega
          | true =>
            have HES := Lib.hid es
            clear es
            cases en : (r0.toList == o.toList) with
            | true =>
              have en2 : (r0.toList != o.toList) = false := by simp only [bne, en]; rfl
              have HOK := Lib.hid (show admB m o (r0, r1, r2, r3) = true by rw [HAD.out, HEM.out, HEB.out, HES.out, en]; rfl)
              go_wp2_with fail
              go_round
              case rel => exact ⟨k + 1, by omega, by go_num, Lib.hid (by rw [HNX.out, HA.out, HOK.out]; rfl), HB8⟩
              case measure => simp [intOf]; omega
            | false =>
              have en2 : (r0.toList != o.toList) = true := by simp only [bne, en]; rfl
              have hR0 : R = false := by rw [← HRR.out]; unfold admR; rw [HST.out (by rw [HAD.out, HEM.out, HEB.out, HES.out, en]; rfl)]; rfl
              subst hR0
              go_wp2_with fail
              go_ret
              exact ⟨rfl, HB8.out⟩
    · have hlt' : ¬ (k : Int) < n := by omega
      obtain rfl : k = n := by omega
      have hall : rs.all (admB m o) = true := by have := HA.out; rwa [List.take_of_length_le (by rw [HL.out]; omega)] at this
      cases hrs : rs with
      | nil =>
        have hR0 : R = false := by rw [← HRR.out, hrs]; rfl
        obtain rfl : k = 0 := by rw [← HL.out, hrs]; rfl
        subst hR0
        clear hall hrs
        go_wp2_with fail
        go_ret
        exact ⟨rfl, HB.out⟩
      | cons r t =>
        have h0 : rs[0]? = some r := by rw [hrs]; rfl
        obtain ⟨bb, off, rfl, hbb, y0, y1, y2, y3⟩ := (H.out.below HB.out) 0 _ h0
        have hR0 : soaB r = R := by rw [← HRR.out]; unfold admR; rw [hall, hrs]; rfl
        have hk0 : (0 : Int) < k := by have := HL.out; rw [hrs] at this; simp at this; omega
        have hk0' : 0 < k := by omega
        have IS := Lib.hid (fun w => isSoa_any r w)
        rw [hR0] at IS
        obtain ⟨r0, r1, r2, r3⟩ := r
        simp only [Nat.zero_mul, Nat.add_zero] at y0 y1 y2 y3
        unfold recV at IS
        simp only at IS
        clear hall hrs h0 hR0
        go_wp2_with fail
        refine (IS.out _).mono ?_
        rintro e w8 ⟨rfl, hb8⟩
        have HB8 := Lib.hid (below_trans HB.out HB.out.size hb8)
        clear hb8 y0 y1 y2 y3
        go_wp2_with fail
        go_ret
        exact ⟨rfl, HB8.out⟩
end Go.Proofs.YtpbbnpglcadimaaDoor
namespace Go.Proofs.YtpbbnpglcadimaaDoor
open Go.RowKit
set_option linter.unusedVariables false
set_option linter.unusedSimpArgs false
set_option maxRecDepth 20000
theorem wpList_load_midH {P : Program} {ops : Array Oper} {rest : List Oper} {op : Oper} {a : Act} {w : World} {Q : Exit → Act → World → Prop} (hgd : Region.wanted op (yielded ops a.tmps) = true) (ty : TypeId) (x : Operand) (ho : op.op = .load ty x)
    (b o : Nat) (hx : a.eval x = .pointer (some ⟨b, o, none⟩)) (cs : List Value) (d : TypeDesc) (hc : w.rangeAt b o cs)
    (hu : P.underlying ty = some d) (hd : d.isRow = true) (hi : (P.info? ty).map (·.size) = some cs.length)
    (h : wpList P ops Q rest (a.put op.dst (.agg cs.toArray)) w) : wpList P ops Q (op :: rest) a w := by
  refine wpList_step fun K hK => ?_
  rw [if_pos hgd]
  exact wp_load_mid ty x ho b o hx cs d hc hu hd hi (hK _ _ h)
/-- The place of the first SOA from a place on; behind all, if there is none. -/
def nextS (rs : List RecT) (i : Nat) : Nat := i + ((rs.drop i).takeWhile fun r => !soaB r).length
theorem nextS_no {rs : List RecT} {i : Nat} {r : RecT} (hr : rs[i]? = some r) (hs : soaB r = false) : nextS rs i = nextS rs (i + 1) := by
  obtain ⟨h, he⟩ := List.getElem?_eq_some_iff.1 hr
  unfold nextS
  rw [List.drop_eq_getElem_cons h, he, List.takeWhile_cons]
  simp [hs]
  omega
theorem nextS_yes {rs : List RecT} {i : Nat} {r : RecT} (hr : rs[i]? = some r) (hs : soaB r = true) : nextS rs i = i := by
  obtain ⟨h, he⟩ := List.getElem?_eq_some_iff.1 hr
  unfold nextS
  rw [List.drop_eq_getElem_cons h, he, List.takeWhile_cons]
  simp [hs]
theorem nextS_end {rs : List RecT} {i : Nat} (h : rs.length ≤ i) : nextS rs i = i := by
  unfold nextS
  rw [List.drop_eq_nil_of_le h]; rfl
set_option maxHeartbeats 3200000 in
theorem nextSoa_any (A : Option Addr) (n c : Nat) (rs : List RecT) (i : Nat) (w : World) (h : Recs w A rs) (hl : rs.length = n) (hn : n ≤ 1048576) (hin : i ≤ 1048577) :
    Calls Tryd.prog 65 #[.slice A n c, .int .i64 (i : Nat)] w fun e w' => e = .returned (.int .i64 (nextS rs i : Nat)) ∧ Below w.heap.size w w' := by
  have H := Lib.hid h
  have HL := Lib.hid hl
  clear h hl
  go_enter Tryd.func65, Tryd.ntmps65
  go_wp2_with fail
  go_loopw [1] (fun p wr => ∃ k : Nat, k ≤ 1048577 ∧ p = .int .i64 k ∧ Hid (nextS rs i = nextS rs k) ∧ Hid (Below w.heap.size w wr)) (fun p _ => 1048577 - (intOf p).toNat)
  case atStart => exact ⟨i, hin, rfl, Lib.hid rfl, Lib.hid (Below.refl _ _)⟩
  case round =>
    obtain ⟨k, hk, rfl, HK, HB⟩ := hrel
    by_cases hlt : k < n
    · have hlt' : (k : Int) < n := by omega
      obtain ⟨r, hr⟩ : ∃ r, rs[k]? = some r := ⟨_, List.getElem?_eq_getElem (by rw [HL.out]; omega)⟩
      obtain ⟨bb, off, rfl, hbb, hrg⟩ := (H.out.below HB.out).range hr
      have IS := Lib.hid (fun w => isSoa_any r w)
      have HRG := Lib.hid hrg
      have HR := Lib.hid hr
      clear hr hrg hbb
      obtain ⟨r0, r1, r2, r3⟩ := r
      unfold recV at IS
      unfold recCells at HRG
      simp only at IS HRG
      go_wp2_with (first | refine wpList_load_midH rfl 41 _ rfl bb (off + k * 4) rfl _ _ HRG.out Tryd.underlying41 rfl (by kernel_rfl) ?_)
      refine (IS.out _).mono ?_
      rintro e w6 ⟨rfl, hb6⟩
      have HB6 := Lib.hid (below_trans HB.out HB.out.size hb6)
      clear hb6
      cases es : soaB (r0, r1, r2, r3) with
      | false =>
        have HNO := Lib.hid (nextS_no HR.out es)
        clear es
        go_wp2_with fail
        go_round
        case rel => exact ⟨k + 1, by omega, by go_num, Lib.hid (HK.out.trans HNO.out), HB6⟩
        case measure => simp [intOf]; omega
      | true =>
        have HYE := Lib.hid (HK.out.trans (nextS_yes HR.out es))
        clear es
        go_wp2_with fail
        go_ret
        exact ⟨by rw [HYE.out]; rfl, HB6.out⟩
    · have hlt' : ¬ (k : Int) < n := by omega
      have HEN := Lib.hid (HK.out.trans (nextS_end (by rw [HL.out]; omega)))
      go_wp2_with fail
      go_ret
      exact ⟨by rw [HEN.out]; rfl, HB.out⟩
end Go.Proofs.YtpbbnpglcadimaaDoor
namespace Go.Proofs.YtpbbnpglcadimaaDoor
open Go.RowKit
set_option linter.unusedVariables false
set_option maxRecDepth 20000

set_option maxHeartbeats 800000 in
theorem cutSoa_any (s : ByteArray) (w : World) (hs : s.size ≤ 140737488355328) :
    Calls Tryd.prog 77 #[.string s] w fun e w' => Below w.heap.size w w' ∧ ((∃ a b t, IsSoa s.data.toList a b t ∧ e = .returned (.tuple #[sv a, sv b, sv t, .bool true])) ∨ ((∀ a b t, ¬ IsSoa s.data.toList a b t) ∧ e = .returned (.tuple #[.string ⟨#[]⟩, .string ⟨#[]⟩, .string ⟨#[]⟩, .bool false]))) := by
  have hlen : s.data.toList.length = s.size := by simp
  obtain ⟨L, hL⟩ : ∃ L, s.data.toList = L := ⟨_, rfl⟩
  have HC := Lib.hid (fun w => cutp_any s w hs)
  rw [hL] at HC hlen
  rw [hL]
  clear hL
  go_enter Tryd.func77, Tryd.ntmps77
  go_wp2_with fail
  refine (HC.out _).mono ?_
  rintro e w1 ⟨hb1, ⟨a, r, hc1, rfl⟩ | ⟨hno, rfl⟩⟩
  · have HC1 := Lib.hid hc1
    have hl1 := hc1.len
    have HC2 := Lib.hid (fun w => cutp_any ⟨r.toArray⟩ w (by rw [mk_size]; omega))
    rw [mk_toList] at HC2
    clear hc1
    unfold sv
    go_wp2_with fail
    refine (HC2.out _).mono ?_
    rintro e w2 ⟨hb2', ⟨b, t, hc2, rfl⟩ | ⟨hno, rfl⟩⟩
    all_goals have hb2 := below_trans hb1 hb1.size hb2'
    · unfold sv
      by_cases h20 : t.length = 20
      · have hsz : (ByteArray.mk t.toArray).size = 20 := by rw [mk_size]; exact h20
        have HY := Lib.hid (isSoa_yes HC1.out hc2 h20)
        have hne : (((ByteArray.mk t.toArray).size : Int) != 20) = false := by rw [hsz]; decide
        obtain ⟨T, hT⟩ : ∃ T, T = ByteArray.mk t.toArray := ⟨_, rfl⟩
        rw [← hT] at hsz hne ⊢
        have HT := Lib.hid hT
        clear hc2 HC1 HC2 HC h20 hT
        go_wp2_with fail
        refine bodyPost_ret (v := .tuple #[.string ⟨a.toArray⟩, .string ⟨b.toArray⟩, .string T, .bool true]) (by simp [results, Tryd.results77, go_sem]) rfl ⟨hb2, .inl ⟨a, b, t, HY.out, ?_⟩⟩
        rw [HT.out]; rfl
      · have hne : (((ByteArray.mk t.toArray).size : Int) != 20) = true := by rw [mk_size]; simp; omega
        have HN := Lib.hid (isSoa_no3 HC1.out hc2 h20)
        generalize ByteArray.mk t.toArray = T at *
        clear hc2 HC1 HC2 HC h20
        go_wp2_with fail
        refine bodyPost_ret (v := .tuple #[.string ⟨#[]⟩, .string ⟨#[]⟩, .string ⟨#[]⟩, .bool false]) (by simp [results, Tryd.results77, go_sem]) rfl ⟨hb2, .inr ⟨HN.out, rfl⟩⟩
    · have HN := Lib.hid (isSoa_no2 HC1.out hno)
      clear HC1 HC2 HC hno
      go_wp2_with fail
      refine bodyPost_ret (v := .tuple #[.string ⟨#[]⟩, .string ⟨#[]⟩, .string ⟨#[]⟩, .bool false]) (by simp [results, Tryd.results77, go_sem]) rfl ⟨hb2, .inr ⟨HN.out, rfl⟩⟩
  · have HN := Lib.hid (isSoa_no1 hno)
    clear HC hno
    go_wp2_with fail
    refine bodyPost_ret (v := .tuple #[.string ⟨#[]⟩, .string ⟨#[]⟩, .string ⟨#[]⟩, .bool false]) (by simp [results, Tryd.results77, go_sem]) rfl ⟨hb1, .inr ⟨HN.out, rfl⟩⟩
theorem rmay_soa (s : ByteArray) (w : World) (hs : s.size ≤ 140737488355328) :
    Calls Tryd.prog 61 #[.int .u16 6, .string s] w fun e w' => Below w.heap.size w w' ∧ (((∃ a b t, IsSoa s.data.toList a b t) ∧ e = .returned (.bool true)) ∨ ((∀ a b t, ¬ IsSoa s.data.toList a b t) ∧ e = .returned (.bool false))) := by
  have HC := Lib.hid (fun w => cutSoa_any s w hs)
  go_enter Tryd.func61, Tryd.ntmps61
  go_wp2_with fail
  refine (HC.out _).mono ?_
  rintro e w1 ⟨hb1, ⟨a, b, t, hy, rfl⟩ | ⟨hno, rfl⟩⟩
  · have HY := Lib.hid hy
    clear hy
    unfold sv
    go_wp2_with fail
    go_ret
    exact ⟨hb1, .inl ⟨⟨a, b, t, HY.out⟩, rfl⟩⟩
  · have HN := Lib.hid hno
    clear hno
    go_wp2_with fail
    go_ret
    exact ⟨hb1, .inr ⟨HN.out, rfl⟩⟩
end Go.Proofs.YtpbbnpglcadimaaDoor
namespace Go.Proofs.YtpbbnpglcadimaaDoor
open Go.RowKit
set_option linter.unusedVariables false
set_option maxRecDepth 20000

theorem at8_mk (t : List UInt8) (i : Nat) (h : i < t.length) : at8 ⟨t.toArray⟩ i = (t[i]).toNat := by
  unfold at8; simp [List.getD_eq_getElem?_getD, List.getElem?_eq_getElem h]
theorem n32_lt (s : ByteArray) (a : Nat) : n32 s a < 4294967296 := by
  have h1 := at8_lt s a; have h2 := at8_lt s (a + 1); have h3 := at8_lt s (a + 2); have h4 := at8_lt s (a + 3)
  unfold n32; omega
theorem b32_n32 (t : List UInt8) (a : Nat) (h : a + 4 ≤ t.length) : b32 (n32 ⟨t.toArray⟩ a) = (t.drop a).take 4 := by
  have h0 := at8_mk t a (by omega)
  have h1 := at8_mk t (a + 1) (by omega)
  have h2 := at8_mk t (a + 2) (by omega)
  have h3 := at8_mk t (a + 3) (by omega)
  have l0 := (t[a]'(by omega)).toNat_lt
  have l1 := (t[a+1]'(by omega)).toNat_lt
  have l2 := (t[a+2]'(by omega)).toNat_lt
  have l3 := (t[a+3]'(by omega)).toNat_lt
  have hd : (t.drop a).take 4 = [t[a]'(by omega), t[a+1]'(by omega), t[a+2]'(by omega), t[a+3]'(by omega)] := by
    rw [List.drop_eq_getElem_cons (by omega), List.drop_eq_getElem_cons (by omega), List.drop_eq_getElem_cons (by omega), List.drop_eq_getElem_cons (by omega)]; rfl
  rw [hd]
  unfold b32 n32
  rw [h0, h1, h2, h3]
  have key : ∀ (x : UInt8) (m : Nat), m = x.toNat → UInt8.ofNat m = x := by rintro x m rfl; simp
  simp only [List.cons.injEq, and_true]
  refine ⟨key _ _ ?_, key _ _ ?_, key _ _ ?_, key _ _ ?_⟩ <;> omega
/-- The five numbers of twenty bytes. -/
def nums (t : List UInt8) : List Nat := [n32 ⟨t.toArray⟩ 0, n32 ⟨t.toArray⟩ 4, n32 ⟨t.toArray⟩ 8, n32 ⟨t.toArray⟩ 12, n32 ⟨t.toArray⟩ 16]
theorem nums_bytes (t : List UInt8) (h : t.length = 20) : (nums t).flatMap b32 = t := by
  unfold nums
  simp only [List.flatMap_cons, List.flatMap_nil, List.append_nil]
  rw [b32_n32 t 0 (by omega), b32_n32 t 4 (by omega), b32_n32 t 8 (by omega), b32_n32 t 12 (by omega), b32_n32 t 16 (by omega)]
  have e : ∀ a, t.drop a = (t.drop a).take 4 ++ t.drop (a + 4) := fun a => by rw [← List.drop_drop]; exact (List.take_append_drop 4 _).symm
  have e5 : (t.drop 16).take 4 = t.drop 16 := List.take_of_length_le (by simp; omega)
  rw [e5, ← e 12, ← e 8, ← e 4, ← e 0, List.drop_zero]
theorem dataL_soa {l a b t : List UInt8} (h : IsSoa l a b t) : dataL a b (nums t) = l := by
  unfold dataL
  rw [nums_bytes t h.2.2]
  exact h.1.2.symm
end Go.Proofs.YtpbbnpglcadimaaDoor
namespace Go.Proofs.YtpbbnpglcadimaaDoor
open Go.RowKit
set_option linter.unusedVariables false
set_option maxRecDepth 20000

theorem b32_inj {x y : Nat} (hx : x < 4294967296) (hy : y < 4294967296) (h : b32 x = b32 y) : x = y := by
  have key : ∀ n : Nat, n < 4294967296 → (b32 n).map (·.toNat) = [n / 16777216, n / 65536 % 256, n / 256 % 256, n % 256] := by
    intro n hn
    unfold b32
    simp only [List.map_cons, List.map_nil]
    rw [ofNat_small _ (by omega), ofNat_small _ (by omega), ofNat_small _ (by omega), ofNat_small _ (by omega)]
  have h2 := congrArg (List.map (·.toNat)) h
  rw [key x hx, key y hy] at h2
  simp only [List.cons.injEq, and_true] at h2
  omega
theorem flat_inj : ∀ (xs ys : List Nat), xs.length = ys.length → (∀ x ∈ xs, x < 4294967296) → (∀ y ∈ ys, y < 4294967296) → xs.flatMap b32 = ys.flatMap b32 → xs = ys
  | [], [], _, _, _, _ => rfl
  | x :: xs, y :: ys, hl, hx, hy, h => by
    simp only [List.flatMap_cons] at h
    obtain ⟨h1, h2⟩ := List.append_inj h (by simp [b32])
    rw [b32_inj (hx x (by simp)) (hy y (by simp)) h1, flat_inj xs ys (by simpa using hl) (fun z hz => hx z (by simp [hz])) (fun z hz => hy z (by simp [hz])) h2]
theorem isSoa_data {a b : List UInt8} {ns : List Nat} (ha : mayL a) (hb : mayL b) (hn : ns.length = 5) : IsSoa (dataL a b ns) a b (ns.flatMap b32) := ⟨⟨ha, rfl⟩, hb, by rw [b32_len, hn]⟩
theorem dataL_inj {a b a' b' : List UInt8} {ns ns' : List Nat} (ha : mayL a) (hb : mayL b) (ha' : mayL a') (hb' : mayL b') (hn : ns.length = 5) (hn' : ns'.length = 5) (hx : ∀ x ∈ ns, x < 4294967296) (hy : ∀ x ∈ ns', x < 4294967296)
    (h : dataL a b ns = dataL a' b' ns') : a = a' ∧ b = b' ∧ ns = ns' := by
  have h1 := isSoa_data (ns := ns) ha hb hn
  rw [h] at h1
  obtain ⟨e1, e2, e3⟩ := h1.one (isSoa_data ha' hb' hn')
  exact ⟨e1, e2, flat_inj _ _ (by omega) hx hy e3⟩
end Go.Proofs.YtpbbnpglcadimaaDoor
namespace Go.Proofs.YtpbbnpglcadimaaDoor
open Go.RowKit
set_option linter.unusedVariables false
set_option maxRecDepth 20000

theorem soaV_data {a b : List UInt8} {n1 n2 n3 n4 n5 : Nat} (ha : mayL a) (hb : mayL b) (h1 : n1 < 4294967296) (h2 : n2 < 4294967296) (h3 : n3 < 4294967296) (h4 : n4 < 4294967296) (h5 : n5 < 4294967296) {a' b' t : List UInt8} (h : IsSoa (dataL a b [n1, n2, n3, n4, n5]) a' b' t) :
    soaV a' b' t = .agg #[sv a, sv b, .int .u32 n1, .int .u32 n2, .int .u32 n3, .int .u32 n4, .int .u32 n5] := by
  obtain ⟨rfl, rfl, rfl⟩ := h.one (isSoa_data ha hb rfl)
  have hl : ([n1, n2, n3, n4, n5].flatMap b32).length = 20 := by rw [b32_len]; rfl
  have hn := flat_inj (nums ([n1, n2, n3, n4, n5].flatMap b32)) [n1, n2, n3, n4, n5] rfl (by intro x hx; unfold nums at hx; simp at hx; rcases hx with rfl | rfl | rfl | rfl | rfl <;> exact n32_lt _ _)
    (by intro x hx; simp at hx; omega) (nums_bytes _ hl)
  unfold nums at hn
  simp only [List.cons.injEq, and_true] at hn
  obtain ⟨e1, e2, e3, e4, e5⟩ := hn
  unfold soaV
  rw [e1, e2, e3, e4, e5]
set_option maxHeartbeats 800000 in
theorem sof_other (nm d : ByteArray) (t ttl : Int) (w : World) (ht : (t != 6) = true) :
    Calls Tryd.prog 42 #[.agg #[.string nm, .int .u16 t, .int .u32 ttl, .string d]] w fun e w' => e = .returned (.tuple #[soa0, .bool false]) ∧ Below w.heap.size w w' := by
  go_enter Tryd.func42, Tryd.ntmps42
  go_wp2_with fail
  refine bodyPost_ret (v := .tuple #[soa0, .bool false]) (by simp [soa0, results, Tryd.results42, go_sem]) rfl ⟨rfl, ?_⟩
  exact ((Below.refl w.heap.size w).alloc (Nat.le_refl _) _).alloc (by simp) _
set_option maxHeartbeats 1600000 in
theorem sof_soa (nm d : ByteArray) (ttl : Int) (w : World) (hd : d.size ≤ 140737488355328) :
    Calls Tryd.prog 42 #[.agg #[.string nm, .int .u16 6, .int .u32 ttl, .string d]] w fun e w' => Below w.heap.size w w' ∧ ((∃ a b t, IsSoa d.data.toList a b t ∧ e = .returned (.tuple #[soaV a b t, .bool true])) ∨ ((∀ a b t, ¬ IsSoa d.data.toList a b t) ∧ e = .returned (.tuple #[soa0, .bool false]))) := by
  have PA := Lib.hid (fun w => parse_any d w hd)
  go_enter Tryd.func42, Tryd.ntmps42
  go_wp2_with fail
  have hC := Cs.new (w.alloc (.cells #[.string nm, .int .u16 6, .int .u32 ttl, .string d] 41)) #[.string ⟨#[]⟩, .string ⟨#[]⟩, .int .u32 0, .int .u32 0, .int .u32 0, .int .u32 0, .int .u32 0] 60 [.string ⟨#[]⟩, .string ⟨#[]⟩, .int .u32 0, .int .u32 0, .int .u32 0, .int .u32 0, .int .u32 0]
  have hP : (w.alloc (.cells #[.string nm, .int .u16 6, .int .u32 ttl, .string d] 41)).heap.size = w.heap.size + 1 := by simp
  rw [hP] at hC
  have hbW := ((Below.refl w.heap.size w).alloc (Nat.le_refl _) (.cells #[.string nm, .int .u16 6, .int .u32 ttl, .string d] 41)).alloc (by simp) (.cells #[.string ⟨#[]⟩, .string ⟨#[]⟩, .int .u32 0, .int .u32 0, .int .u32 0, .int .u32 0, .int .u32 0] 60)
  generalize hW : (w.alloc (.cells #[.string nm, .int .u16 6, .int .u32 ttl, .string d] 41)).alloc (.cells #[.string ⟨#[]⟩, .string ⟨#[]⟩, .int .u32 0, .int .u32 0, .int .u32 0, .int .u32 0, .int .u32 0] 60) = W at *
  clear hW hP
  refine (PA.out _).mono ?_
  rintro e w2 ⟨hb2', h2⟩
  have hC2 := hC.below hb2'
  have hb2 := below_trans hbW hbW.size hb2'
  have d0 := hC2.get 0 _
  have d1 := hC2.get 1 _
  have d2 := hC2.get 2 _
  have d3 := hC2.get 3 _
  have d4 := hC2.get 4 _
  have d5 := hC2.get 5 _
  have d6 := hC2.get 6 _
  have fz : ∀ j, j < 7 → w2.frozen? ⟨w.heap.size + 1, j, none⟩ = false := fun j hj => hC2.froz j hj
  have f0 := fz 0 (by omega)
  have f1 := fz 1 (by omega)
  have f2 := fz 2 (by omega)
  have f3 := fz 3 (by omega)
  have f4 := fz 4 (by omega)
  have f5 := fz 5 (by omega)
  have f6 := fz 6 (by omega)
  clear hC2 hC hbW hb2' PA fz
  rcases h2 with ⟨a, b, t, hy, rfl⟩ | ⟨hno, rfl⟩
  · have HY := Lib.hid hy
    clear hy
    obtain ⟨a1, a2, a3, a4, a5, a6, a7, ha⟩ : ∃ a1 a2 a3 a4 a5 a6 a7, soaV a b t = .agg #[.string a1, .string a2, .int .u32 a3, .int .u32 a4, .int .u32 a5, .int .u32 a6, .int .u32 a7] := ⟨_, _, _, _, _, _, _, rfl⟩
    rw [ha]
    have HA := Lib.hid ha
    clear ha
    go_wp2_with fail
    refine bodyPost_ret (v := .tuple #[.agg #[.string a1, .string a2, .int .u32 a3, .int .u32 a4, .int .u32 a5, .int .u32 a6, .int .u32 a7], .bool true]) (by simp [results, Tryd.results42, go_sem, d0, d1, d2, d3, d4, d5, d6]) rfl ⟨?_, .inl ⟨a, b, t, HY.out, by rw [HA.out]⟩⟩
    iterate 7 (refine Below.setCell ?_ (by simp) _)
    exact hb2
  · have HN := Lib.hid hno
    clear hno
    unfold soa0
    go_wp2_with fail
    refine bodyPost_ret (v := .tuple #[soa0, .bool false]) (by simp [soa0, results, Tryd.results42, go_sem, d0, d1, d2, d3, d4, d5, d6]) rfl ⟨?_, .inr ⟨HN.out, rfl⟩⟩
    iterate 7 (refine Below.setCell ?_ (by simp) _)
    exact hb2
end Go.Proofs.YtpbbnpglcadimaaDoor
namespace Go.Proofs.YtpbbnpglcadimaaDoor
open Go.RowKit
set_option linter.unusedVariables false
set_option linter.unusedSimpArgs false
set_option maxRecDepth 20000
theorem dataL_len9 (a b : List UInt8) (ns : List Nat) : (dataL a b ns).length = a.length + b.length + 4 * ns.length + 2 := by
  unfold dataL
  rw [List.length_append, List.length_cons, List.length_append, List.length_cons, b32_len]; omega
theorem sof_soaR (o : ByteArray) (n : Nat) (hn : n < 4294967296) (w : World) : Calls Tryd.prog 42 #[recV (soaR o n)] w fun e w' => e = .returned (.tuple #[.agg #[sv (nameZ []), sv (nameZ []), .int .u32 n, .int .u32 10, .int .u32 3, .int .u32 40, .int .u32 1], .bool true]) ∧ Below w.heap.size w w' := by
  have hm := nameZ_may [] (by simp)
  have hl := nameZ_len [] (by simp)
  have hd : (soaD n).size ≤ 140737488355328 := by
    unfold soaD
    rw [mk_size, dataL_len9]
    simp
    omega
  have hdl : (soaD n).data.toList = dataL (nameZ []) (nameZ []) [n, 10, 3, 40, 1] := by unfold soaD; simp
  refine (sof_soa o (soaD n) 9 w hd).mono ?_
  rintro e w' ⟨hb, ⟨a, b, t, hs, rfl⟩ | ⟨hno, rfl⟩⟩
  · rw [hdl] at hs
    rw [soaV_data hm hm hn (by omega) (by omega) (by omega) (by omega) hs]
    exact ⟨rfl, hb⟩
  · exfalso
    rw [hdl] at hno
    exact hno _ _ _ (isSoa_data hm hm rfl)
set_option maxHeartbeats 1600000 in
theorem serial_soa (o : ByteArray) (n : Nat) (hn : n < 4294967296) (w : World) : Calls Tryd.prog 22 #[recV (soaR o n)] w fun e w' => e = .returned (.int .u32 (n : Nat)) ∧ Below w.heap.size w w' := by
  have OF : Hid (∀ w, Calls Tryd.prog 42 #[.agg #[.string o, .int .u16 6, .int .u32 9, .string (soaD n)]] w fun e w' => (∃ EX, EX = Value.agg #[sv (nameZ []), sv (nameZ []), .int .u32 n, .int .u32 10, .int .u32 3, .int .u32 40, .int .u32 1] ∧ e = .returned (.tuple #[EX, .bool true])) ∧ Below w.heap.size w w') :=
    Lib.hid (fun w => (sof_soaR o n hn w).mono (by rintro e w' ⟨rfl, hb⟩; exact ⟨⟨_, rfl, rfl⟩, hb⟩))
  unfold soaR recV
  simp only
  generalize soaD n = D at *
  have hb := (Below.refl w.heap.size w).alloc (Nat.le_refl _) (.cells #[.string o, .int .u16 6, .int .u32 9, .string D] 41)
  have HB := Lib.hid hb
  clear hb
  go_enter Tryd.func22, Tryd.ntmps22
  go_wp2_with fail
  refine (OF.out _).mono ?_
  rintro e w2 ⟨⟨EX, hEX, rfl⟩, hb2⟩
  have HEX := Lib.hid hEX
  clear hEX
  have hZ := Cs.new w2 #[.string ⟨#[]⟩, .string ⟨#[]⟩, .int .u32 0, .int .u32 0, .int .u32 0, .int .u32 0, .int .u32 0] 60 [.string ⟨#[]⟩, .string ⟨#[]⟩, .int .u32 0, .int .u32 0, .int .u32 0, .int .u32 0, .int .u32 0]
  have HTH := Lib.hid (hZ.there 7 rfl)
  have hM := hZ.mid [sv (nameZ []), sv (nameZ []), .int .u32 n, .int .u32 10, .int .u32 3, .int .u32 40, .int .u32 1] rfl
  have hbZ := below_setCells' (B := w.heap.size) (g := w2.heap.size) (Nat.le_trans HB.out.size hb2.size) [sv (nameZ []), sv (nameZ []), .int .u32 n, .int .u32 10, .int .u32 3, .int .u32 40, .int .u32 1] 0 ((below_trans HB.out HB.out.size hb2).alloc (Nat.le_trans HB.out.size hb2.size) (.cells #[.string ⟨#[]⟩, .string ⟨#[]⟩, .int .u32 0, .int .u32 0, .int .u32 0, .int .u32 0, .int .u32 0] 60))
  have k2 := hM.get 2 _
  have HBZ := Lib.hid hbZ
  have HK2 := Lib.hid k2
  clear hb2 hZ hM hbZ k2
  go_upto_region 2 with (first | refine wpList_store_mid rfl 60 _ _ rfl w2.heap.size 0 #[sv (nameZ []), sv (nameZ []), .int .u32 n, .int .u32 10, .int .u32 3, .int .u32 40, .int .u32 1] rfl HEX.out HTH.out (by kernel_rfl) (by simp [Value.oneCell', sv]) ?_)
  have k2 := HK2.out
  generalize (w2.alloc (.cells #[.string ⟨#[]⟩, .string ⟨#[]⟩, .int .u32 0, .int .u32 0, .int .u32 0, .int .u32 0, .int .u32 0] 60)).setCells w2.heap.size 0 [sv (nameZ []), sv (nameZ []), .int .u32 n, .int .u32 10, .int .u32 3, .int .u32 40, .int .u32 1] = w5 at *
  go_wp2_with fail
  go_ret
  exact ⟨rfl, HBZ.out⟩
end Go.Proofs.YtpbbnpglcadimaaDoor
namespace Go.Proofs.YtpbbnpglcadimaaDoor
open Go.RowKit
set_option linter.unusedVariables false
set_option maxRecDepth 20000
theorem nmB_labels (l : List UInt8) : ∃ LS, labelsOf (nmB l) = some LS ∧ (nmB l).size ≤ 254 := by
  refine ⟨wordsZ (intsB l), ?_, ?_⟩
  · unfold nmB nameZ
    exact few_labels (wordsZ_ok _ (intsB_ok l)) (wordsZ_len _)
  · unfold nmB
    have := nameZ_le (intsB l) (intsB_ok l)
    simpa [ByteArray.size] using this
theorem dataOf_cname (q : Nat) (X s : ByteArray) (h : ((dataOf q X s).1 : Int) = 5) : (dataOf q X s).2 = X := by
  unfold dataOf at h ⊢
  by_cases c0 : q = 0 ∨ q = 1
  · rw [if_pos c0] at h; simp at h
  rw [if_neg c0] at h ⊢
  by_cases c2 : q = 2
  · rw [if_pos c2]
  rw [if_neg c2] at h ⊢
  by_cases c3 : q = 3
  · rw [if_pos c3]
  rw [if_neg c3] at h ⊢
  by_cases c4 : q = 4
  · rw [if_pos c4] at h; simp at h
  rw [if_neg c4] at h ⊢
  by_cases c5 : q = 5
  · rw [if_pos c5] at h; simp at h
  rw [if_neg c5] at h ⊢
  by_cases c6 : q = 6
  · rw [if_pos c6] at h; simp at h
  rw [if_neg c6] at h; simp at h
theorem dataOf_le (q : Nat) (X s : ByteArray) (hX : X.size ≤ 254) (hs : s.size ≤ 30) : (dataOf q X s).2.size ≤ 600 := by
  have k1 : (ByteArray.mk #[0]).size = 1 := rfl
  have k2 : (ByteArray.mk #[UInt8.ofNat s.size]).size = 1 := rfl
  unfold dataOf
  by_cases c0 : q = 0 ∨ q = 1
  · rw [if_pos c0]; simp only [ByteArray.size_extract]; omega
  rw [if_neg c0]
  by_cases c2 : q = 2
  · rw [if_pos c2]; simp only; omega
  rw [if_neg c2]
  by_cases c3 : q = 3
  · rw [if_pos c3]; simp only; omega
  rw [if_neg c3]
  by_cases c4 : q = 4
  · rw [if_pos c4]; simp only [ByteArray.size_append, ByteArray.size_extract, k1]; omega
  rw [if_neg c4]
  by_cases c5 : q = 5
  · rw [if_pos c5]; simp only [ByteArray.size_append, ByteArray.size_extract, k2]; omega
  rw [if_neg c5]
  by_cases c6 : q = 6
  · rw [if_pos c6]; simp only [ByteArray.size_extract]; omega
  rw [if_neg c6]; simp only [ByteArray.size_extract]; omega
theorem txtB_le (s : ByteArray) : (txtB s).size ≤ 30 := by unfold txtB; rw [ByteArray.size_extract]; omega
theorem recOf_data (a : ActT) : (recOf a).2.2.2.size ≤ 600 := by
  obtain ⟨_, -, h⟩ := nmB_labels a.2.2.2.1.2.2.2
  exact dataOf_le _ _ _ h (txtB_le _)
theorem rec_cname (a : ActT) (h : (recOf a).2.1 = 5) : ∃ LS, labelsOf (recOf a).2.2.2 = some LS ∧ (recOf a).2.2.2.size ≤ 254 := by
  have h1 := dataOf_cname _ _ _ h
  have : (recOf a).2.2.2 = nmB a.2.2.2.1.2.2.2 := h1
  rw [this]
  exact nmB_labels _
theorem recOf_name (a : ActT) : (recOf a).1.size ≤ 254 := (nmB_labels a.1.2.2.2).choose_spec.2
end Go.Proofs.YtpbbnpglcadimaaDoor
