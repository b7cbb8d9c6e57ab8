/- Texts that walks stand on, one behind the other. -/
import Derived.Test.YteaeplceahdioaaDoorMgSD
import Derived.Test.YteaeplceahdioaaDoorMgSB
import Derived.Test.YteaeplceahdioaaDoorCard
import Derived.Outline
import Derived.Deep.DeepCutAuto
import Derived.Test.YteaeplceahdioaaDoorRows
import Derived.Test.YteaeplceahdioaaDoorMgSC
import Derived.ChangeVars
import Derived.LaidLaws
import Derived.LaidHandle
import Derived.Stop.Joined
namespace Go.Proofs.YteaeplceahdioaaDoor
open Go.RowKit
set_option linter.unusedVariables false
set_option linter.unusedSimpArgs false
set_option maxRecDepth 20000
attribute [local simp] putsF isV wordOf Deps Region.binds Region.wanted Act.put wantedX isB
theorem insR_mem10 {out : List RecT} {r q : RecT} (h : q ∈ insR out r) : q ∈ out ∨ q = r := by
  unfold insR at h
  rcases List.mem_append.1 h with h | h
  · exact .inl ((List.takeWhile_sublist _).mem h)
  · rcases List.mem_cons.1 h with h | h
    · exact .inr h
    · exact .inl ((List.dropWhile_sublist _).mem h)
theorem sorted_snoc10 {z : List RecT} {r : RecT} (hz : Rising z) (hr : hasB z r = false) : sortedR (z ++ [r]) = insR z r :=
  rising_ext (sortedR_rising _) (insR_rising hz (hasB_false.1 hr)) (fun q => by
    rw [sortedR_mem, List.mem_append, List.mem_singleton]
    constructor
    · rintro (h | rfl)
      · exact insR_keeps h
      · exact insR_has _ _
    · exact insR_mem10)
theorem lessR_eq10 {z : List RecT} {r : RecT} (h : (lessR z r).length = z.length) : hasB z r = false := by
  have : lessR z r = z := List.filter_sublist.eq_of_length h
  cases e : hasB z r with
  | false => rfl
  | true =>
    have hm := (hasB_iff _ _).1 e
    rw [← this] at hm
    unfold lessR at hm
    have := (List.mem_filter.1 hm).2
    rw [(eqB_iff r r).2 rfl] at this
    cases this
theorem lessR_ne10 {z : List RecT} {r : RecT} (h : (lessR z r).length ≠ z.length) : hasB z r = true := by
  cases e : hasB z r with
  | true => rfl
  | false => exact absurd (by rw [lessR_none (hasB_false.1 e)]) h
theorem obm_of_cs10 {B g : Nat} {W w : World} {a b c d : Value} (hb : Below B W w) (hs : B ≤ w.heap.size) (hg : B ≤ g) (h : Cs w g [a, b, c, d]) : OBM 4 B W (.slice (some ⟨g, 0, none⟩) 1 1) 1 [a, b, c, d] w := by
  refine ⟨hb, hs, rfl, .inr ⟨g, 1, rfl, hg, h.lt, Nat.le_refl _, by decide, fun j hj => ?_, fun j u hu => h.get j u hu⟩⟩
  have h1 := h.2 j (by simpa using hj)
  exact ⟨by rw [h1.1]; rfl, h1.2⟩
theorem hasB_take10 {z : List RecT} {r x : RecT} {j : Nat} (hx : z[j]? = some x) (h : hasB (z.take j) r = false) (he : eqB x r = false) : hasB (z.take (j + 1)) r = false := by
  rw [hasB_false] at h ⊢
  rw [List.take_add_one, hx]
  intro hm
  rcases List.mem_append.1 hm with hm | hm
  · exact h hm
  · simp at hm; subst hm
    exact eqB_false he rfl
theorem hasB_at10 {z : List RecT} {r x : RecT} {j : Nat} (hx : z[j]? = some x) (he : eqB x r = true) : hasB z r = true := by
  rw [hasB_iff]
  obtain rfl := (eqB_iff _ _).1 he
  exact List.mem_of_getElem? hx
theorem until_mono10 {k : Nat} {p : Value → World → Prop} {d : Nat → Bool} {K : Nat} {v : Value} {w : World} (h : until_ k p d v w) : until_ k p (setD d K) v w := fun hk => h (setD_false hk)
/-- What the statement's delta leaves. -/
def Delta10 (x : Nat ⊕ List RecT) (w : World) (e : Ending) (w' : World) : Prop :=
  (∃ er : Nat, x = .inl er ∧ e = .returned (.tuple #[.slice none 0 0, .int .i64 (er : Int)]) ∧ Below w.heap.size w w') ∨ (∃ z v, x = .inr z ∧ e = .returned (.tuple #[v, .int .i64 0]) ∧ OBM 4 w.heap.size w v z.length (flatR z) w')
/-- In the midst of what goes. -/
structure Del10 (w2 w : World) (L z : List RecT) (k : Nat) (v : Value) (zk : List RecT) (wr : World) : Prop where
  own : OBM 4 w2.heap.size w2 v zk.length (flatR zk) wr
  ris : Rising zk
  len : zk.length ≤ z.length
  rest : delAll (L.drop k) zk = delAll L z
  bel : Below w.heap.size w wr
/-- In the midst of what comes. -/
structure Ins10 (w2 w : World) (L z : List RecT) (k : Nat) (v : Value) (zk : List RecT) (wr : World) : Prop where
  own : OBM 4 w2.heap.size w2 v zk.length (flatR zk) wr
  ris : Rising zk
  len : zk.length ≤ z.length + k
  rest : insAll (L.drop k) zk = insAll L z
  bel : Below w.heap.size w wr
theorem wrap_next10 (j : Nat) (h : j ≤ 100000) : IntKind.i64.wrap ((j : Int) + 1) = ((j + 1 : Nat) : Int) := by
  rw [IntWalk.i64_in _ (by omega)]; omega
set_option maxHeartbeats 6400000 in
theorem delta10_any (V : Value) (z : List RecT) (fr tt : RecT) (Ag An : Option Addr) (ng cg nn cn : Nat) (gone new : List RecT) (w : World) (hZ : ZoneAt w V z) (hzn : z.length ≤ 10000) (hri : Rising z)
    (hG : RowROk w (Ag, ng, cg, gone)) (hGn : ng ≤ 10000) (hG0 : Ag = none → ng = 0) (hN : RowROk w (An, nn, cn, new)) (hNn : nn ≤ 10000) (hN0 : An = none → nn = 0) :
    Calls Tryd.prog 20 #[V, dltV fr tt (.slice Ag ng cg) (.slice An nn cn)] w (Delta10 (deltaR z fr tt gone new) w) := by
  obtain ⟨i0, hi, hz0, hz1, hz2⟩ := info_parts4 rec_info
  obtain ⟨AR, hAR⟩ : ∃ R, R = Delta10 (deltaR z fr tt gone new) w := ⟨_, rfl⟩
  rw [← hAR]
  have HFAIL : Hid (∀ er : Nat, deltaR z fr tt gone new = .inl er → ∀ w', Below w.heap.size w w' → AR (.returned (.tuple #[.slice none 0 0, .int .i64 (er : Int)])) w') := Lib.hid (fun er h w' hb => by rw [hAR]; exact .inl ⟨er, h, rfl, hb⟩)
  have HOK : Hid (∀ z' v w', deltaR z fr tt gone new = .inr z' → OBM 4 w.heap.size w v z'.length (flatR z') w' → AR (.returned (.tuple #[v, .int .i64 0])) w') := Lib.hid (fun z' v w' h ho => by rw [hAR]; exact .inr ⟨z', v, h, rfl, ho⟩)
  have HZ := Lib.hid hZ
  obtain ⟨AZ, cz, rfl, hz1', hz2', hz3, hz4⟩ := hZ
  have SOA := Lib.hid (fun wx hb => soaz_any AZ z.length cz z wx ((hz1'.sl.recs (Nat.le_refl _) rfl).below hb) rfl (by unfold maxLen; omega))
  have HZS := Lib.hid hz1'.sl
  have HZ0 : Hid (AZ = none → z.length = 0) := Lib.hid (fun h => (hz2' h).1)
  obtain ⟨n, hn⟩ : ∃ n, n = z.length := ⟨_, rfl⟩
  rw [← hn] at HZ SOA HZ0
  rw [← hn]
  have hn1 : n ≤ 10000 := by omega
  have HNZ := Lib.hid hn
  have HRI := Lib.hid hri
  have HG := Lib.hid hG
  have HN := Lib.hid hN
  have HG0 := Lib.hid hG0
  have HN0 := Lib.hid hN0
  have HGN := Lib.hid hGn
  have HNN := Lib.hid hNn
  have HDR : Hid (deltaR z fr tt gone new = match firstS z with
    | none => .inl 5
    | some s => if eqB s fr = true then (match delAll (fr :: gone) z with
      | none => .inl 6
      | some z1 => (match insAll (new ++ [tt]) z1 with
        | none => .inl 7
        | some z2 => .inr z2)) else .inl 5) := Lib.hid rfl
  unfold dltV dltCells recCells
  obtain ⟨W, hW⟩ : ∃ W, W = w.alloc (.cells #[.string fr.1, .int .u16 fr.2.1, .int .u32 fr.2.2.1, .string fr.2.2.2, .string tt.1, .int .u16 tt.2.1, .int .u32 tt.2.2.1, .string tt.2.2.2, .slice Ag ng cg, .slice An nn cn] 48) := ⟨_, rfl⟩
  obtain ⟨B, hB⟩ : ∃ B, B = w.heap.size := ⟨_, rfl⟩
  have HC : Hid (Cs W B [.string fr.1, .int .u16 fr.2.1, .int .u32 fr.2.2.1, .string fr.2.2.2, .string tt.1, .int .u16 tt.2.1, .int .u32 tt.2.2.1, .string tt.2.2.2, .slice Ag ng cg, .slice An nn cn]) := Lib.hid (by rw [hW, hB]; exact Cs.new w _ _ _)
  have HBW : Hid (Below w.heap.size w W) := Lib.hid (by rw [hW]; exact (Below.refl _ _).alloc (Nat.le_refl _) _)
  have HW := Lib.hid hW
  have HBB := Lib.hid hB
  clear hAR hz1' hz2' hz3 hz4 hzn hri hG hN hGn hNn hG0 hN0 hW hB hn
  go_enter Tryd.func20, Tryd.ntmps20
  go_wp2_with fail
  rw [← HW.out, ← HBB.out]
  refine (SOA.out W HBW.out).mono ?_
  rintro e w1 ⟨rfl, hb1⟩
  have HC1 := Lib.hid (HC.out.below hb1)
  have HB1 := Lib.hid (below_trans HBW.out HBW.out.size hb1)
  have c0 := HC1.out.get 0 _
  have c1 := HC1.out.get 1 _
  have c2 := HC1.out.get 2 _
  have c3 := HC1.out.get 3 _
  have hlB := HC1.out.lt
  clear hb1 SOA HC HBW HW
  cases hs : firstS z with
  | none =>
    have hd := HDR.out
    rw [hs] at hd
    have HD := Lib.hid hd
    clear hs hd
    unfold recV zeroR
    go_wp2_with fail
    exact HFAIL.out 5 HD.out _ (HB1.out.alloc HB1.out.size _)
  | some s =>
    have hd := HDR.out
    rw [hs] at hd
    simp only at hd
    obtain ⟨q, hq⟩ : ∃ q, eqB s fr = q := ⟨_, rfl⟩
    have hne : ∀ w, (binOp .neq 32 (recV s) (recV fr)).run Tryd.prog w = .ok (.bool (!q)) w := fun w => by rw [← hq]; exact rec_neq s fr w
    rw [hq] at hd
    unfold recV at hne
    have HD := Lib.hid hd
    clear hs hd hq
    simp only [Option.getD_some, Option.isSome_some]
    unfold recV
    cases q with
    | false =>
      have hd := HD.out
      rw [if_neg (by decide)] at hd
      have HD := Lib.hid hd
      clear hd
      go_wp2_with fail
      exact HFAIL.out 5 HD.out _ (HB1.out.alloc HB1.out.size _)
    | true =>
      have hd := HD.out
      rw [if_pos rfl] at hd
      have HD := Lib.hid hd
      clear hd
      have HB2 := Lib.hid (HB1.out.alloc HB1.out.size (.cells #[.string s.1, .int .u16 s.2.1, .int .u32 s.2.2.1, .string s.2.2.2] 32))
      have HC2 := Lib.hid (HC1.out.alloc (.cells #[.string s.1, .int .u16 s.2.1, .int .u32 s.2.2.1, .string s.2.2.2] 32))
      go_upto_region 4 with fail
      generalize (w1.alloc (.cells #[.string s.1, .int .u16 s.2.1, .int .u32 s.2.2.1, .string s.2.2.2] 32)) = w2 at *
      have HSZ : Hid (Src Tryd.prog 4 34 (.slice AZ n cz) n (flatR z) w2) := Lib.hid (by
        have h := HZS.out.below HB2.out
        rw [← HNZ.out] at h
        exact Sl.srcM Tryd.underlying34 h HZ0.out (flatR_one z))
      have hfl : (flatR z).length = n * 4 := by rw [flatR_len, HNZ.out]
      clear c0 c1 c2 c3 hlB hne HC1 HB1
      go_wp2_with (at_builtin; go_loud (refine wpList_append_obm rfl _ _ 34 34 rfl 32 i0 _ 40 Tryd.underlying34 hi hz0 hz1 hz2 rfl (OBM.start w2) rfl rfl HSZ.out hfl (by unfold maxLen; omega) (by omega) ?_))
      intro v3 w3 q1 q2 q3 q4
      have HO : Hid (OBM 4 w2.heap.size w2 v3 z.length (flatR z) w3) := Lib.hid (by rw [← HNZ.out]; simpa using q1)
      have HB3 := Lib.hid (below_trans HB2.out HB2.out.size q1.bel)
      have HC3 := Lib.hid (HC2.out.below q1.bel)
      have HB2W := HB2
      clear q1 q2 q3 q4 hfl HSZ HB2 HC2
      have d0 := HC3.out.get 0 _
      have d1 := HC3.out.get 1 _
      have d2 := HC3.out.get 2 _
      have d3 := HC3.out.get 3 _
      have d8 := HC3.out.get 8 _
      have hlB3 := HC3.out.lt
      have HL : Hid (OBM 4 w3.heap.size w3 (.slice (some ⟨w3.heap.size, 0, none⟩) 1 1) 1 [.string fr.1, .int .u16 fr.2.1, .int .u32 fr.2.2.1, .string fr.2.2.2] (w3.alloc (.cells #[.string fr.1, .int .u16 fr.2.1, .int .u32 fr.2.2.1, .string fr.2.2.2] 32))) := Lib.hid (obm_of_cs10 ((Below.refl _ _).alloc (Nat.le_refl _) _) (by simp) (Nat.le_refl _) (Cs.new w3 _ _ _))
      have HSG : Hid (Src Tryd.prog 4 26 (.slice Ag ng cg) ng (flatR gone) (w3.alloc (.cells #[.string fr.1, .int .u16 fr.2.1, .int .u32 fr.2.2.1, .string fr.2.2.2] 32))) := Lib.hid (by
        have h := (HG.out.below (HB3.out.alloc HB3.out.size (.cells #[.string fr.1, .int .u16 fr.2.1, .int .u32 fr.2.2.1, .string fr.2.2.2] 32))).sl
        exact Sl.srcM Tryd.underlying26 h HG0.out (flatR_one gone))
      have hfl : (flatR gone).length = ng * 4 := by rw [flatR_len]; have := HG.out.len; simp at this; omega
      have hng : ng ≤ 10000 := HGN.out
      go_wp2_with (at_builtin; go_loud (refine wpList_append_obm rfl _ _ 26 26 rfl 32 i0 _ 40 Tryd.underlying26 hi hz0 hz1 hz2 rfl HL.out rfl rfl HSG.out hfl (by unfold maxLen; omega) (by omega) ?_))
      intro v5 w5 q1 q2 q3 q4
      obtain ⟨L, hL⟩ : ∃ L, L = fr :: gone := ⟨_, rfl⟩
      have hLl : L.length = 1 + ng := by rw [hL]; have := HG.out.len; simp at this ⊢; omega
      have q1' : OBM 4 w3.heap.size w3 v5 L.length (flatR L) w5 := by rw [hLl, hL]; unfold flatR at q1 ⊢; simpa [recCells] using q1
      have HD := Lib.hid (HD.out)
      rw [← hL] at HD
      obtain ⟨AL, cl, rfl, hl1, hl2, -⟩ := q1'.slice
      obtain ⟨m, hm⟩ : ∃ m, m = L.length := ⟨_, rfl⟩
      have hm2 : m ≤ 20000 := by omega
      have HRL := Lib.hid (q1'.recs rfl)
      rw [← hm]
      have HM := Lib.hid hm
      have HB5 := Lib.hid (below_trans HB3.out HB3.out.size q1'.bel)
      have HC5 := Lib.hid (HC3.out.below q1'.bel)
      have S0 : Hid (Del10 w2 w L z 0 v3 z w5) := Lib.hid ⟨HO.out.keep q1'.bel (Nat.le_refl _), HRI.out, Nat.le_refl _, rfl, HB5.out⟩
      clear hL q1 q2 q3 q4 q1' hl1 hl2 hm hLl hfl HL HSG HC3 HB3 d0 d1 d2 d3 d8 hlB3 HO
      go_wp2_with fail
      go_loopw [8, 40] (fun v i wr => ∃ (k : Nat) (zk : List RecT) (V : Value), k ≤ m ∧ v = V ∧ i = .int .i64 k ∧ Hid (Del10 w2 w L z k V zk wr) ∧ Hid (Below w5.heap.size w5 wr)) (fun _ i _ => m - (intOf i).toNat)
      case atStart => exact ⟨0, z, _, Nat.zero_le _, rfl, rfl, S0, Lib.hid (Below.refl _ _)⟩
      case round =>
        obtain ⟨k, zk, V, hk, hv, rfl, HS, HBR⟩ := hrel
        obtain rfl := hv.symm
        obtain ⟨AV, CV, hV, hv1, hv2, hv3⟩ := HS.out.own.slice
        subst hV
        by_cases hkm : k < m
        · have hkm' : (k : Int) < m := by omega
          have hk0 : ¬ (k : Int) < 0 := by omega
          obtain ⟨r, hr⟩ : ∃ q, L[k]? = some q := ⟨_, List.getElem?_eq_getElem (by rw [← HM.out]; exact hkm)⟩
          obtain ⟨g, off, rfl, hg, z0, z1, z2, z3⟩ := (HRL.out.below HBR.out) k _ hr
          have HR := Lib.hid (drop_at hr)
          obtain ⟨wa, hwa⟩ : ∃ wa, wa = wr.alloc (.cells #[.string r.1, .int .u16 r.2.1, .int .u32 r.2.2.1, .string r.2.2.2] 32) := ⟨_, rfl⟩
          obtain ⟨BA, hBA⟩ : ∃ B, B = wr.heap.size := ⟨_, rfl⟩
          have HCA : Hid (Cs wa BA [.string r.1, .int .u16 r.2.1, .int .u32 r.2.2.1, .string r.2.2.2]) := Lib.hid (by rw [hwa, hBA]; exact Cs.new wr _ _ _)
          have HOA : Hid (OBM 4 w2.heap.size w2 (.slice AV zk.length CV) zk.length (flatR zk) wa) := Lib.hid (by rw [hwa]; exact HS.out.own.alloc _)
          have HBWA : Hid (Below w.heap.size w wa) := Lib.hid (by rw [hwa]; exact HS.out.bel.alloc HS.out.bel.size _)
          have HB5A : Hid (Below w5.heap.size w5 wa) := Lib.hid (by rw [hwa]; exact HBR.out.alloc HBR.out.size _)
          have HWA := Lib.hid hwa
          have HBA := Lib.hid hBA
          have HRA : Hid (Recs wa AV zk) := Lib.hid (HOA.out.recs rfl)
          obtain ⟨nk, hnk⟩ : ∃ nk, nk = zk.length := ⟨_, rfl⟩
          have hnk2 : nk ≤ 10000 := by have := HS.out.len; have := HNZ.out; omega
          have HNK := Lib.hid hnk
          have HLEN : Hid (zk.length ≤ z.length) := Lib.hid HS.out.len
          have HRIS : Hid (Rising zk) := Lib.hid HS.out.ris
          have HREST : Hid (delAll (L.drop k) zk = delAll L z) := Lib.hid HS.out.rest
          rw [← hnk] at hv1 HOA ⊢
          clear hr hwa hBA hnk hv3 HS
          go_wp2_with fail
          rw [← HWA.out, ← HBA.out]
          go_loopw [11, 46] (fun v i wx => ∃ j : Nat, j ≤ nk ∧ i = .int .i64 j ∧ Hid (OBM 4 wa.heap.size wa v (lessR (zk.take j) r).length (flatR (lessR (zk.take j) r)) wx)) (fun _ i _ => nk - (intOf i).toNat)
          case atStart => exact ⟨0, Nat.zero_le _, rfl, Lib.hid (by simpa [lessR, flatR] using OBM.start wa)⟩
          case round =>
            obtain ⟨j, hj, rfl, HX⟩ := hrel
            by_cases hjn : j < nk
            · have hjn' : (j : Int) < nk := by omega
              have hj0 : ¬ (j : Int) < 0 := by omega
              obtain ⟨x, hx⟩ : ∃ q, zk[j]? = some q := ⟨_, List.getElem?_eq_getElem (by rw [← HNK.out]; exact hjn)⟩
              obtain ⟨gx, ox, rfl, hgx, y0, y1, y2, y3⟩ := (HRA.out.below HX.out.bel) j _ hx
              have hnx := lessR_next (s := r) hx
              have hle : (lessR (zk.take j) r).length ≤ 100000 := by
                have h2 : (lessR (zk.take j) r).length ≤ (zk.take j).length := List.length_filter_le _ _
                simp at h2; omega
              obtain ⟨q, hq⟩ : ∃ q, eqB x r = q := ⟨_, rfl⟩
              have hne : ∀ w, (binOp .neq 32 (recV x) (recV r)).run Tryd.prog w = .ok (.bool (!q)) w := fun w => by rw [← hq]; exact rec_neq x r w
              unfold recV at hne
              rw [hq] at hnx
              have HNX := Lib.hid hnx
              obtain ⟨wb, hwb⟩ : ∃ wb, wb = wr.alloc (.cells #[.string x.1, .int .u16 x.2.1, .int .u32 x.2.2.1, .string x.2.2.2] 32) := ⟨_, rfl⟩
              obtain ⟨BB, hBB⟩ : ∃ B, B = wr.heap.size := ⟨_, rfl⟩
              have HCB : Hid (Cs wb BB [.string x.1, .int .u16 x.2.1, .int .u32 x.2.2.1, .string x.2.2.2]) := Lib.hid (by rw [hwb, hBB]; exact Cs.new wr _ _ _)
              have HXB : Hid (OBM 4 wa.heap.size wa u11 (lessR (zk.take j) r).length (flatR (lessR (zk.take j) r)) wb) := Lib.hid (by rw [hwb]; exact HX.out.alloc _)
              have HCAB : Hid (Cs wb BA [.string r.1, .int .u16 r.2.1, .int .u32 r.2.2.1, .string r.2.2.2]) := Lib.hid (by rw [hwb]; exact (HCA.out.below HX.out.bel).alloc _)
              have HWB := Lib.hid hwb
              have HBB2 := Lib.hid hBB
              clear hx hnx hq hwb hBB
              go_upto_region 12 with fail
              rw [← HWB.out, ← HBB2.out]
              have d0 := HCB.out.get 0 _
              have d1 := HCB.out.get 1 _
              have d2 := HCB.out.get 2 _
              have d3 := HCB.out.get 3 _
              have dl := HCB.out.lt
              have e0 := HCAB.out.get 0 _
              have e1 := HCAB.out.get 1 _
              have e2 := HCAB.out.get 2 _
              have e3 := HCAB.out.get 3 _
              have el := HCAB.out.lt
              clear y0 y1 y2 y3
              cases q with
              | true =>
                go_wp2_with fail
                go_roundw
                case rel => exact ⟨j + 1, by omega, by go_num, Lib.hid (by rw [HNX.out]; simpa using HXB.out)⟩
                case measure => simp [intOf]; omega
              | false =>
                have HBX := Lib.hid (HXB.out.alloc (.cells #[.string x.1, .int .u16 x.2.1, .int .u32 x.2.2.1, .string x.2.2.2] 32))
                have hs := Lib.hid (src_rec (w := wb) (ts := 34) Tryd.underlying34 x)
                go_wp2_with (at_builtin; go_loud (refine wpList_append_obm rfl _ _ 34 34 rfl 32 i0 _ 40 Tryd.underlying34 hi hz0 hz1 hz2 rfl HBX.out rfl rfl hs.out rfl (by unfold maxLen; omega) (by omega) ?_))
                intro v' w' q1 q2 q3 q4
                have Q1 := Lib.hid q1
                clear q1 q2 q3 q4
                go_wp2_with fail
                go_roundw
                case rel => exact ⟨j + 1, by omega, by go_num, Lib.hid (by rw [HNX.out, if_neg (by decide), List.length_append, flatR_append]; simpa [flatR] using Q1.out)⟩
                case measure => simp [intOf]; omega
            · obtain rfl : j = nk := by omega
              have hjn' : ¬ (j : Int) < j := by omega
              obtain ⟨lr, hlr⟩ : ∃ lr, lr = (lessR zk r).length := ⟨_, rfl⟩
              have HRT : Hid (OBM 4 wa.heap.size wa u11 (lessR zk r).length (flatR (lessR zk r)) wr) := Lib.hid (by
                have h := HX.out
                rw [List.take_of_length_le (by rw [← HNK.out]; exact Nat.le_refl _)] at h
                exact h)
              obtain ⟨AR2, CR2, hvr, hr1, hr2, -⟩ := HRT.out.slice
              subst hvr
              rw [← hlr] at hr1 ⊢
              have hlr2 : lr ≤ j := by
                have h2 : (lessR zk r).length ≤ zk.length := List.length_filter_le _ _
                have := HNK.out; omega
              by_cases hc : lr = j
              · have hf : deltaR z fr tt gone new = .inl 6 := by
                  have h1 := HREST.out
                  rw [HR.out, delAll_cons, lessR_eq10 (by rw [← hlr, hc]; exact HNK.out), if_neg (by decide)] at h1
                  have := HD.out
                  rw [← h1] at this
                  exact this
                have HF := Lib.hid hf
                have HBF := Lib.hid (below_trans HBWA.out HBWA.out.size HRT.out.bel)
                have t1 : ((lr : Int) == (j : Int)) = true := by simp; omega
                clear hf hlr hc
                go_wp2_with fail
                exact HFAIL.out 6 HF.out _ HBF.out
              · have t1 : ((lr : Int) == (j : Int)) = false := by simp; omega
                have HS2 : Hid (Del10 w2 w L z (k + 1) (.slice AR2 lr CR2) (lessR zk r) wr) := Lib.hid (by
                  refine ⟨?_, lessR_rising HRIS.out, ?_, ?_, below_trans HBWA.out HBWA.out.size HRT.out.bel⟩
                  · rw [hlr]; exact HRT.out.out HOA.out.bel.size HOA.out.bel
                  · have := HLEN.out; have := HNK.out; omega
                  · have h1 := HREST.out
                    rw [HR.out, delAll_cons, lessR_ne10 (by rw [← hlr, ← HNK.out]; exact hc), if_pos rfl] at h1
                    exact h1)
                have HBN := Lib.hid (below_trans HB5A.out HB5A.out.size HRT.out.bel)
                clear hlr hc
                go_wp2_with fail
                go_roundw
                case rel => exact ⟨k + 1, _, _, by omega, rfl, by go_num, HS2, HBN⟩
                case measure => simp [intOf]; omega
        · obtain rfl : k = m := by omega
          have hkm' : ¬ (k : Int) < k := by omega
          have hz1 : delAll L z = some zk := by
            have h1 := HS.out.rest
            rw [List.drop_of_length_le (by rw [HM.out]; omega)] at h1
            exact h1.symm
          have hd := HD.out
          rw [hz1] at hd
          have HD := Lib.hid hd
          have HCR := Lib.hid (HC5.out.below HBR.out)
          have HBRW : Hid (Below w.heap.size w wr) := Lib.hid HS.out.bel
          have hnn := HNN.out
          obtain ⟨L2, hL2⟩ : ∃ L2, L2 = new ++ [tt] := ⟨_, rfl⟩
          rw [← hL2] at HD
          have hLc : flatR new ++ [.string tt.1, .int .u16 tt.2.1, .int .u32 tt.2.2.1, .string tt.2.2.2] = flatR L2 := by rw [hL2, flatR_append]; simp [flatR, recCells]
          obtain ⟨M2, hM2⟩ : ∃ M2, M2 = nn + 1 := ⟨_, rfl⟩
          have hLl : M2 = L2.length := by rw [hL2, hM2]; have := HN.out.len; simp at this ⊢; omega
          have hM3 : M2 ≤ 10001 := by omega
          have HM2 := Lib.hid hLl
          have HLC := Lib.hid hLc
          have HM2N := Lib.hid hM2
          have hfl : (flatR new).length = nn * 4 := by rw [flatR_len]; have := HN.out.len; simp at this; omega
          have HFL := Lib.hid hfl
          have HSN : Hid (∀ wx, Below wr.heap.size wr wx → Src Tryd.prog 4 26 (.slice An nn cn) nn (flatR new) wx) := Lib.hid (fun wx hb => by
            have h := (HN.out.below (below_trans HBRW.out HBRW.out.size hb)).sl
            exact Sl.srcM Tryd.underlying26 h HN0.out (flatR_one new))
          clear hz1 hd hL2 hLc hM2 hLl hfl
          go_upto_region 19 with fail
          refine wp_region_expR app_follows (fun x => by simp [putsF, Act.put]; rfl) (fun _ _ v => Below wr.heap.size wr v)
            [isX (.pointer (some ⟨B, 9, none⟩)), isX (.slice An nn cn), until_ 6 (ownW 4 wr.heap.size wr nn (flatR new)), isX (.pointer (some ⟨B, 4, none⟩)), isX (.agg #[.string tt.1, .int .u16 tt.2.1, .int .u32 tt.2.2.1, .string tt.2.2.2]), until_ 6 (litW 1 [.string tt.1, .int .u16 tt.2.1, .int .u32 tt.2.2.1, .string tt.2.2.2]), always (ownW 4 wr.heap.size wr M2 (flatR L2)), isX (.int .i64 (M2 : Nat)), isX (.int .i64 0)]
            [6] (by kernel_rfl) (by kernel_rfl) (by kernel_rfl) rfl ?_ (Below.refl _ _).drew ?_ ?_ ?_
          · repeat (first | exact trivial | refine ⟨by first | exact isX_stays _ | exact until_stays (litW_stays _ _) | exact until_stays (ownW_stays _ _ _ _ _) | exact always_stays (ownW_stays _ _ _ _ _), ?_⟩)
          · refine ⟨?_, ?_, ?_, ?_, ?_, ?_, skipped rfl, ?_, ?_, trivial⟩
            all_goals
              intro _ d x wx hR hdi hsrc hd
              refine ⟨fun _ => ?_, fun hX => by simp at hX⟩
              simp [wordX, isX] at hd ⊢
              have c4 := (HCR.out.below hR).get 4 _
              have c5 := (HCR.out.below hR).get 5 _
              have c6 := (HCR.out.below hR).get 6 _
              have c7 := (HCR.out.below hR).get 7 _
              have c9 := (HCR.out.below hR).get 9 _
              have cl := (HCR.out.below hR).lt
            · go_simp; exact nextXR _ rfl rfl hR (Below.refl _ _)
            · try simp [hd]
              go_simp; exact nextXR _ rfl rfl hR (Below.refl _ _)
            · try dsimp only
              rw [hd]
              refine oper_append_obm _ _ _ _ rfl 32 i0 _ 40 Tryd.underlying26 hi hz0 hz1 hz2 rfl (OBM.start wx) rfl rfl (HSN.out wx hR) HFL.out (by unfold maxLen; omega) (by omega) ?_
              intro v2 w' q1 q2 q3 q4
              exact nextXR v2 rfl (until_of (by unfold ownW; simpa using q1.out hR.size hR)) (below_trans hR hR.size q1.bel) q1.bel
            · go_simp; exact nextXR _ rfl rfl hR (Below.refl _ _)
            · try simp [hd]
              go_simp; exact nextXR _ rfl rfl hR (Below.refl _ _)
            · have hv : x 4 = .agg #[.string tt.1, .int .u16 tt.2.1, .int .u32 tt.2.2.1, .string tt.2.2.2] := by first | exact hd | exact hd.1
              simp only [hv]
              clear hd hv
              go_simp
              exact nextXR _ rfl (until_of (litW_new 1 _ _ _ _)) (hR.alloc hR.size _) ((Below.refl wx.heap.size wx).alloc (Nat.le_refl _) _)
            · have hd6 : OBM 4 wr.heap.size wr (x 6) M2 (flatR L2) wx := by first | exact hd | exact hd.1
              obtain ⟨A6, C6, hx6, g1, g2, -⟩ := hd6.slice
              try dsimp only
              rw [hx6]
              clear hd hd6 hx6
              go_simp; exact nextXR _ rfl rfl hR (Below.refl _ _)
            · go_simp; exact nextXR _ rfl rfl hR (Below.refl _ _)
          · refine ⟨unskipped rfl, unskipped rfl, unskipped rfl, unskipped rfl, unskipped rfl, unskipped rfl, ?_, unskipped rfl, unskipped rfl, trivial⟩
            intro _ d x wx hR hdi hcl hsrc hd
            refine ⟨fun _ => ?_, fun hX => by simp at hX⟩
            have d2 : d 2 = true := SrcX.reach (K := 6) hcl hsrc rfl 20 2 (by decide) (by kernel_rfl)
            have d5 : d 5 = true := SrcX.reach (K := 6) hcl hsrc rfl 20 5 (by decide) (by kernel_rfl)
            simp only [DoneX] at hd
            obtain ⟨-, -, h2, -, -, h5, -⟩ := hd
            have ho2 : OBM 4 wr.heap.size wr (x 2) nn (flatR new) wx := h2 d2 hdi
            obtain ⟨g5, hx5, hc5⟩ : litW 1 [.string tt.1, .int .u16 tt.2.1, .int .u32 tt.2.2.1, .string tt.2.2.2] (x 5) wx := h5 d5 hdi
            dsimp only
            rw [hx5]
            refine oper_append_obm _ _ _ _ rfl 32 i0 _ 40 Tryd.underlying26 hi hz0 hz1 hz2 rfl ho2 rfl rfl
              (Src.ofSlice _ Tryd.underlying26 ⟨g5, 0, none⟩ 1 1 [.string tt.1, .int .u16 tt.2.1, .int .u32 tt.2.2.1, .string tt.2.2.2] rfl (fun j u hu => by rw [Addr.add_lit, Nat.zero_add]; exact hc5.get j u hu) (recCells_one tt)) rfl (by unfold maxLen; omega) (by omega) ?_
            intro v2 w' q1 q2 q3 q4
            refine nextKR v2 rfl (by rw [← HLC.out, HM2N.out]; exact q1) q1.bel ?_
            exact ⟨fun _ _ h => h, fun _ _ h => h, fun _ _ _ => until_self, fun _ _ h => h, fun _ _ h => h, fun _ _ _ => until_self, fun h => absurd rfl h, fun _ _ h => h, fun _ _ h => h, trivial⟩
          intro x w6 d hall hR hx
          simp only [AllX] at hx
          obtain ⟨-, -, -, -, -, -, h6, h7, h8, -⟩ := hx
          have Q6 : OBM 4 wr.heap.size wr (x 6) M2 (flatR L2) w6 := h6
          have h7 : x 7 = .int .i64 (M2 : Nat) := h7
          have h8 : x 8 = .int .i64 0 := h8
          rw [h7, h8]
          clear h6 h7 h8 hall
          generalize x 6 = v6 at *
          obtain ⟨AL2, cl2, rfl, hl1, hl2, -⟩ := Q6.slice
          have HRL2 := Lib.hid (Q6.recs HM2.out.symm)
          have HB6 : Hid (Below w.heap.size w w6) := Lib.hid (below_trans HBRW.out HBRW.out.size hR)
          have HZK : Hid (zk.length ≤ 10000) := Lib.hid (by have := HS.out.len; have := HNZ.out; omega)
          have S0 : Hid (Ins10 w2 w L2 zk 0 (.slice AV zk.length CV) zk w6) := Lib.hid ⟨HS.out.own.keep hR (Nat.le_refl _), HS.out.ris, by omega, rfl, HB6.out⟩
          clear Q6 hR hl1 hl2 HS hv3
          go_wp2_with fail
          go_loopw [8, 73] (fun v i wr => ∃ (k : Nat) (zj : List RecT) (V : Value), k ≤ M2 ∧ v = V ∧ i = .int .i64 k ∧ Hid (Ins10 w2 w L2 zk k V zj wr) ∧ Hid (Below w6.heap.size w6 wr)) (fun _ i _ => M2 - (intOf i).toNat)
          case atStart => exact ⟨0, zk, _, Nat.zero_le _, rfl, rfl, S0, Lib.hid (Below.refl _ _)⟩
          case round =>
            obtain ⟨p, zj, V, hp, hv, rfl, HS, HBR⟩ := hrel
            obtain rfl := hv.symm
            obtain ⟨AV2, CV2, hV, hv1, hv2, hv3⟩ := HS.out.own.slice
            subst hV
            by_cases hpm : p < M2
            · have hpm' : (p : Int) < M2 := by omega
              have hp0 : ¬ (p : Int) < 0 := by omega
              obtain ⟨r, hr⟩ : ∃ q, L2[p]? = some q := ⟨_, List.getElem?_eq_getElem (by rw [← HM2.out]; exact hpm)⟩
              obtain ⟨g, off, rfl, hg, z0, z1, z2, z3⟩ := (HRL2.out.below HBR.out) p _ hr
              have HR := Lib.hid (drop_at hr)
              obtain ⟨wa, hwa⟩ : ∃ wa, wa = wr.alloc (.cells #[.string r.1, .int .u16 r.2.1, .int .u32 r.2.2.1, .string r.2.2.2] 32) := ⟨_, rfl⟩
              obtain ⟨BA, hBA⟩ : ∃ B, B = wr.heap.size := ⟨_, rfl⟩
              have HCA : Hid (Cs wa BA [.string r.1, .int .u16 r.2.1, .int .u32 r.2.2.1, .string r.2.2.2]) := Lib.hid (by rw [hwa, hBA]; exact Cs.new wr _ _ _)
              have HOA : Hid (OBM 4 w2.heap.size w2 (.slice AV2 zj.length CV2) zj.length (flatR zj) wa) := Lib.hid (by rw [hwa]; exact HS.out.own.alloc _)
              have HBWA : Hid (Below w.heap.size w wa) := Lib.hid (by rw [hwa]; exact HS.out.bel.alloc HS.out.bel.size _)
              have HB6A : Hid (Below w6.heap.size w6 wa) := Lib.hid (by rw [hwa]; exact HBR.out.alloc HBR.out.size _)
              have HWA := Lib.hid hwa
              have HBA := Lib.hid hBA
              have HRA : Hid (Recs wa AV2 zj) := Lib.hid (HOA.out.recs rfl)
              obtain ⟨nj, hnj⟩ : ∃ nj, nj = zj.length := ⟨_, rfl⟩
              have hnj2 : nj ≤ 20001 := by have := HS.out.len; have := HZK.out; omega
              have HNJ := Lib.hid hnj
              have HLEN : Hid (zj.length ≤ zk.length + p) := Lib.hid HS.out.len
              have HRIS : Hid (Rising zj) := Lib.hid HS.out.ris
              have HREST : Hid (insAll (L2.drop p) zj = insAll L2 zk) := Lib.hid HS.out.rest
              rw [← hnj] at hv1 HOA ⊢
              clear hr hwa hBA hnj hv3 HS
              go_wp2_with fail
              rw [← HWA.out, ← HBA.out]
              go_loopw [79] (fun i wx => ∃ j : Nat, j ≤ nj ∧ i = .int .i64 j ∧ Hid (hasB (zj.take j) r = false) ∧ Hid (Below wa.heap.size wa wx)) (fun i _ => nj - (intOf i).toNat)
              case atStart => exact ⟨0, Nat.zero_le _, rfl, Lib.hid (by simp [hasB]), Lib.hid (Below.refl _ _)⟩
              case round =>
                obtain ⟨j, hj, rfl, HNO, HX⟩ := hrel
                by_cases hjn : j < nj
                · have hjn' : (j : Int) < nj := by omega
                  have hj0 : ¬ (j : Int) < 0 := by omega
                  obtain ⟨x, hx⟩ : ∃ q, zj[j]? = some q := ⟨_, List.getElem?_eq_getElem (by rw [← HNJ.out]; exact hjn)⟩
                  obtain ⟨gx, ox, rfl, hgx, y0, y1, y2, y3⟩ := (HRA.out.below HX.out) j _ hx
                  obtain ⟨q, hq⟩ : ∃ q, eqB x r = q := ⟨_, rfl⟩
                  have hne : ∀ w, (binOp .eql 32 (recV x) (recV r)).run Tryd.prog w = .ok (.bool q) w := fun w => by rw [← hq]; exact rec_eql x r w
                  unfold recV at hne
                  have HXJ := Lib.hid hx
                  have HQ := Lib.hid hq
                  obtain ⟨wb, hwb⟩ : ∃ wb, wb = wr.alloc (.cells #[.string x.1, .int .u16 x.2.1, .int .u32 x.2.2.1, .string x.2.2.2] 32) := ⟨_, rfl⟩
                  obtain ⟨BB, hBB⟩ : ∃ B, B = wr.heap.size := ⟨_, rfl⟩
                  have HCB : Hid (Cs wb BB [.string x.1, .int .u16 x.2.1, .int .u32 x.2.2.1, .string x.2.2.2]) := Lib.hid (by rw [hwb, hBB]; exact Cs.new wr _ _ _)
                  have HXB : Hid (Below wa.heap.size wa wb) := Lib.hid (by rw [hwb]; exact HX.out.alloc HX.out.size _)
                  have HCAB : Hid (Cs wb BA [.string r.1, .int .u16 r.2.1, .int .u32 r.2.2.1, .string r.2.2.2]) := Lib.hid (by rw [hwb]; exact (HCA.out.below HX.out).alloc _)
                  have HWB := Lib.hid hwb
                  have HBB2 := Lib.hid hBB
                  clear hx hq hwb hBB
                  go_upto_region 25 with fail
                  rw [← HWB.out, ← HBB2.out]
                  have d0 := HCB.out.get 0 _
                  have d1 := HCB.out.get 1 _
                  have d2 := HCB.out.get 2 _
                  have d3 := HCB.out.get 3 _
                  have dl := HCB.out.lt
                  have e0 := HCAB.out.get 0 _
                  have e1 := HCAB.out.get 1 _
                  have e2 := HCAB.out.get 2 _
                  have e3 := HCAB.out.get 3 _
                  have el := HCAB.out.lt
                  clear y0 y1 y2 y3
                  cases q with
                  | true =>
                    have hf : deltaR z fr tt gone new = .inl 7 := by
                      have h1 := HREST.out
                      rw [HR.out, insAll_cons, hasB_at10 HXJ.out HQ.out, if_pos rfl] at h1
                      have := HD.out
                      rw [← h1] at this
                      exact this
                    have HF := Lib.hid hf
                    have HBF := Lib.hid (below_trans HBWA.out HBWA.out.size HXB.out)
                    clear hf
                    go_wp2_with fail
                    exact HFAIL.out 7 HF.out _ HBF.out
                  | false =>
                    go_wp2_with fail
                    go_roundw
                    case rel => exact ⟨j + 1, by omega, by go_num, Lib.hid (hasB_take10 HXJ.out HNO.out HQ.out), HXB⟩
                    case measure => simp [intOf]; omega
                · obtain rfl : j = nj := by omega
                  have hjn' : ¬ (j : Int) < j := by omega
                  have HNB : Hid (hasB zj r = false) := Lib.hid (by
                    have h := HNO.out
                    rw [List.take_of_length_le (by rw [← HNJ.out]; exact Nat.le_refl _)] at h
                    exact h)
                  have HOX : Hid (OBM 4 w2.heap.size w2 (.slice AV2 j CV2) j (flatR zj) wr) := Lib.hid (HOA.out.keep HX.out (Nat.le_refl _))
                  have HCX := Lib.hid (HCA.out.below HX.out)
                  have HSZ : Hid (∀ wx, Below wr.heap.size wr wx → Src Tryd.prog 4 34 (.slice AV2 j CV2) j (flatR zj) wx) := Lib.hid (fun wx hb => by
                    have h := HOX.out.keep hb (Nat.le_refl _)
                    obtain ⟨A0, c0, e0, -, -, h0⟩ := h.slice
                    injection e0 with ea eb ec
                    subst ea ec
                    exact Sl.srcM Tryd.underlying34 h.sl (fun e => (h0 e).1) (flatR_one zj))
                  have hfl : (flatR zj).length = j * 4 := by rw [flatR_len, HNJ.out]
                  have HFL := Lib.hid hfl
                  clear hfl
                  go_upto_region 28 with fail
                  have hzjl : (zj ++ [r]).length = j + 1 := by rw [List.length_append, HNJ.out]; rfl
                  have hsz : sortedR (zj ++ [r]) = insR zj r := sorted_snoc10 HRIS.out HNB.out
                  have SRT : Hid (∀ (A7 : Option Addr) (c7 : Nat) (wx : World), Recs wx A7 (zj ++ [r]) → Calls Tryd.prog 13 #[.slice A7 (j + 1) c7] wx fun e w' => ∃ v, e = .returned v ∧ OBM 4 wx.heap.size wx v (insR zj r).length (flatR (insR zj r)) w') := Lib.hid (fun A7 c7 wx h => by
                    have SR := sorted_any A7 (j + 1) c7 (zj ++ [r]) wx h hzjl (by omega)
                    rw [hsz] at SR
                    exact SR)
                  have HZJL := Lib.hid hzjl
                  clear hzjl hsz
                  refine wp_region_expR app_follows (fun x => by simp [putsF, Act.put]; rfl) (fun d x v => Below wr.heap.size wr v ∧ (d 6 = false → x 6 = .slice AV2 j CV2))
                    [isX (.slice AV2 j CV2), until_ 4 (ownW 4 wr.heap.size wr j (flatR zj)), isX (.agg #[.string r.1, .int .u16 r.2.1, .int .u32 r.2.2.1, .string r.2.2.2]), until_ 4 (litW 1 [.string r.1, .int .u16 r.2.1, .int .u32 r.2.2.1, .string r.2.2.2]), always (ownW 4 wr.heap.size wr (j + 1) (flatR (zj ++ [r]))), always (ownW 4 wr.heap.size wr (insR zj r).length (flatR (insR zj r))), always (ownW 4 wr.heap.size wr (insR zj r).length (flatR (insR zj r)))]
                    [0, 4] (by kernel_rfl) (by kernel_rfl) (by kernel_rfl) rfl ?_ ⟨(Below.refl _ _).drew, fun _ => rfl⟩ ?_ ?_ ?_
                  · repeat (first | exact trivial | refine ⟨by first | exact isX_stays _ | exact until_stays (litW_stays _ _) | exact until_stays (ownW_stays _ _ _ _ _) | exact always_stays (ownW_stays _ _ _ _ _), ?_⟩)
                  · refine ⟨skipped rfl, ?_, ?_, ?_, skipped rfl, ?_, ?_, trivial⟩
                    all_goals
                      intro _ d x wx hR hdi hsrc hd
                      refine ⟨fun _ => ?_, fun hX => by simp at hX⟩
                      simp [wordX, isX] at hd ⊢
                      have c0 := (HCX.out.below hR.1).get 0 _
                      have c1 := (HCX.out.below hR.1).get 1 _
                      have c2 := (HCX.out.below hR.1).get 2 _
                      have c3 := (HCX.out.below hR.1).get 3 _
                      have cl := (HCX.out.below hR.1).lt
                    · try dsimp only
                      rw [hd]
                      refine oper_append_obm _ _ _ _ rfl 32 i0 _ 40 Tryd.underlying26 hi hz0 hz1 hz2 rfl (OBM.start wx) rfl rfl (HSZ.out wx hR.1) HFL.out (by unfold maxLen; omega) (by omega) ?_
                      intro v2 w' q1 q2 q3 q4
                      exact nextXR v2 rfl (until_of (by unfold ownW; simpa using q1.out hR.1.size hR.1)) ⟨below_trans hR.1 hR.1.size q1.bel, held_next hR.2 (by decide)⟩ q1.bel
                    · go_simp; exact nextXR _ rfl rfl ⟨hR.1, held_next hR.2 (by decide)⟩ (Below.refl _ _)
                    · have hv : x 2 = .agg #[.string r.1, .int .u16 r.2.1, .int .u32 r.2.2.1, .string r.2.2.2] := by first | exact hd | exact hd.1
                      simp only [hv]
                      clear hd hv
                      go_simp
                      exact nextXR _ rfl (until_of (litW_new 1 _ _ _ _)) ⟨hR.1.alloc hR.1.size _, held_next hR.2 (by decide)⟩ ((Below.refl wx.heap.size wx).alloc (Nat.le_refl _) _)
                    · have hd4 : OBM 4 wr.heap.size wr (x 4) (j + 1) (flatR (zj ++ [r])) wx := by first | exact hd | exact hd.1
                      obtain ⟨A4, C4, hx4, g1, g2, -⟩ := hd4.slice
                      rw [hx4] at hd4
                      have SR := SRT.out A4 C4 wx (hd4.recs HZJL.out)
                      try dsimp only
                      rw [hx4]
                      clear hd hd4 hx4
                      go_simp
                      go_at_call 13
                      refine SR.mono ?_
                      rintro e wy ⟨v8, rfl, ho8⟩
                      exact nextXR v8 rfl (ho8.out hR.1.size hR.1) ⟨below_trans hR.1 hR.1.size ho8.bel, held_next hR.2 (by decide)⟩ ho8.bel
                    · have hd5 : ownW 4 wr.heap.size wr (insR zj r).length (flatR (insR zj r)) (x 5) wx := by first | exact hd | exact hd.1
                      go_simp; exact nextXR _ rfl hd5 ⟨hR.1, held_self⟩ (Below.refl _ _)
                  · refine ⟨?_, unskipped rfl, unskipped rfl, unskipped rfl, ?_, unskipped rfl, unskipped rfl, trivial⟩
                    · intro _ d x wx hR hdi hcl hsrc hd
                      refine ⟨fun _ => ?_, fun hX => by simp at hX⟩
                      have d6 : d 6 = false := by
                        cases e : d 6 with
                        | false => rfl
                        | true => have := hcl.reach 20 0 6 (by kernel_rfl) e; rw [hdi] at this; cases this
                      have hx6 := hR.2 d6
                      try dsimp only
                      rw [hx6]
                      go_simp
                      refine nextKR _ rfl rfl ⟨hR.1, held_next hR.2 (by decide)⟩ ?_
                      exact ⟨fun h => absurd rfl h, fun _ _ h => until_mono10 h, fun _ _ h => h, fun _ _ h => until_mono10 h, fun _ _ h => h, fun _ _ h => h, fun _ _ h => h, trivial⟩
                    · intro _ d x wx hR hdi hcl hsrc hd
                      refine ⟨fun _ => ?_, fun hX => by simp at hX⟩
                      have d1 : d 1 = true := SrcX.reach (K := 4) hcl hsrc rfl 20 1 (by decide) (by kernel_rfl)
                      have d3 : d 3 = true := SrcX.reach (K := 4) hcl hsrc rfl 20 3 (by decide) (by kernel_rfl)
                      have d5 : d 5 = false := by
                        cases e : d 5 with
                        | false => rfl
                        | true => have := hcl.reach 20 4 5 (by kernel_rfl) e; rw [hdi] at this; cases this
                      have d6 : d 6 = false := by
                        cases e : d 6 with
                        | false => rfl
                        | true => have := hcl.reach 20 4 6 (by kernel_rfl) e; rw [hdi] at this; cases this
                      simp only [DoneX] at hd
                      obtain ⟨-, h1, -, h3, -⟩ := hd
                      have ho1 : OBM 4 wr.heap.size wr (x 1) j (flatR zj) wx := h1 d1 hdi
                      obtain ⟨g3, hx3, hc3⟩ : litW 1 [.string r.1, .int .u16 r.2.1, .int .u32 r.2.2.1, .string r.2.2.2] (x 3) wx := h3 d3 hdi
                      try dsimp only
                      rw [hx3]
                      refine oper_append_obm _ _ _ _ rfl 32 i0 _ 40 Tryd.underlying26 hi hz0 hz1 hz2 rfl ho1 rfl rfl
                        (Src.ofSlice _ Tryd.underlying26 ⟨g3, 0, none⟩ 1 1 [.string r.1, .int .u16 r.2.1, .int .u32 r.2.2.1, .string r.2.2.2] rfl (fun j u hu => by rw [Addr.add_lit, Nat.zero_add]; exact hc3.get j u hu) (recCells_one r)) rfl (by unfold maxLen; omega) (by omega) ?_
                      intro v2 w' q1 q2 q3 q4
                      have hw : ownW 4 wr.heap.size wr (j + 1) (flatR (zj ++ [r])) v2 w' := by unfold ownW; rw [flatR_append]; simpa [flatR, recCells] using q1
                      refine nextKR v2 rfl hw ⟨q1.bel, held_next hR.2 (by decide)⟩ ?_
                      exact ⟨fun _ _ h => h, fun _ _ _ => until_self, fun _ _ h => h, fun _ _ _ => until_self, fun h => absurd rfl h, fun _ h5 _ => (by rw [d5] at h5; cases h5), fun _ h6 _ => (by rw [d6] at h6; cases h6), trivial⟩
                  intro x w8 d hall hR hx
                  simp only [AllX] at hx
                  obtain ⟨-, -, -, -, -, -, h6, -⟩ := hx
                  have Q6 : OBM 4 wr.heap.size wr (x 6) (insR zj r).length (flatR (insR zj r)) w8 := h6
                  have HS2 : Hid (Ins10 w2 w L2 zk (p + 1) (x 6) (insR zj r) w8) := Lib.hid (by
                    have hbx := below_trans HX.out HX.out.size hR.1
                    refine ⟨?_, insR_rising HRIS.out (hasB_false.1 HNB.out), by rw [insR_len]; have := HLEN.out; omega, ?_, below_trans HBWA.out HBWA.out.size hbx⟩
                    · exact Q6.out HOX.out.bel.size HOX.out.bel
                    · have h1 := HREST.out
                      rw [HR.out, insAll_cons, HNB.out, if_neg (by decide)] at h1
                      exact h1)
                  have HBN : Hid (Below w6.heap.size w6 w8) := Lib.hid (below_trans HB6A.out HB6A.out.size (below_trans HX.out HX.out.size hR.1))
                  clear h6 Q6 hR hall
                  generalize x 6 = v6 at *
                  go_wp2_with fail
                  go_roundw
                  case rel => exact ⟨p + 1, _, _, by omega, rfl, by go_num, HS2, HBN⟩
                  case measure => simp [intOf]; omega
            · obtain rfl : p = M2 := by omega
              have hpm' : ¬ (p : Int) < p := by omega
              have hz1 : insAll L2 zk = some zj := by
                have h1 := HS.out.rest
                rw [List.drop_of_length_le (by rw [← HM2.out]; omega)] at h1
                exact h1.symm
              have hd := HD.out
              rw [hz1] at hd
              have HD := Lib.hid hd
              have HOF : Hid (OBM 4 w.heap.size w (.slice AV2 zj.length CV2) zj.length (flatR zj) wr) := Lib.hid (HS.out.own.out HB2W.out.size HB2W.out)
              clear hz1 hd
              go_wp2_with fail
              exact HOK.out zj _ _ HD.out HOF.out
end Go.Proofs.YteaeplceahdioaaDoor
namespace Go.Proofs.YteaeplceahdioaaDoor
open Go.RowKit
set_option linter.unusedVariables false
set_option linter.unusedSimpArgs false
set_option maxRecDepth 20000
attribute [local simp] putsF isV wordOf Deps Region.binds Region.wanted Act.put wantedX isB
theorem OBM.setOther {sz B n : Nat} {W w : World} {v : Value} {l : List Value} (h : OBM sz B W v n l w) (g j : Nat) (u : Value) (hg : B ≤ g) (hne : v.ownBlock ≠ some g) : OBM sz B W v n l (w.setCell ⟨g, j, none⟩ u) :=
  h.block (h.bel.setCell hg u) (by simp) (fun k hk => Below.heap_setCell _ _ _ _ (fun e => hne (by rw [hk]; exact congrArg some e)))
theorem mod10 (t q : Nat) (hq : 0 < q) : (t : Int).tmod q = ((t % q : Nat) : Int) := by rw [Int.tmod_eq_emod_of_nonneg (by omega)]; omega
theorem deltaR_errs {z : List RecT} {fr tt : RecT} {gone new : List RecT} {er : Nat} (h : deltaR z fr tt gone new = .inl er) : er = 5 ∨ er = 6 ∨ er = 7 := by
  unfold deltaR at h
  split at h
  · injection h with h; omega
  · split at h
    · split at h
      · injection h with h; omega
      · split at h
        · injection h with h; omega
        · cases h
    · injection h with h; omega
/-- A delta whose gone records are being gathered. -/
structure DelL (wS : World) (B : Nat) (o D2 D4 : ByteArray) (vn : Value) (G : List RecT) (v : Value) (w : World) : Prop where
  cs : Cs w B [.string o, .int .u16 6, .int .u32 9, .string D2, .string o, .int .u16 6, .int .u32 9, .string D4, v, vn]
  own : OBM 4 wS.heap.size wS v G.length (flatR G) w
  apart : v.ownBlock ≠ some B
theorem u8m2 {z : Int} (h : (Lit.int .u8 z).wf = true) : ∃ k : Nat, z % 2 = k ∧ k < 2 ∧ 0 ≤ z := by
  have := u8_wf h
  exact ⟨(z % 2).toNat, by omega, by omega, by omega⟩
theorem pick10 {x lz : Nat} (hx : x < 256) (hz : 0 < lz) (hl : lz ≤ 100) : ∃ i : Nat, (x : Int).tmod (lz : Int) = (i : Int) ∧ i < lz ∧ IntKind.i64.wrap (x : Int) = (x : Int) ∧ IntKind.i64.wrap (i : Int) = (i : Int) := by
  refine ⟨x % lz, mod10 x lz hz, Nat.mod_lt _ hz, IntWalk.i64_in _ (by omega), ?_⟩
  have := Nat.mod_lt x hz
  exact IntWalk.i64_in _ (by omega)
theorem OBM.rowR {B n c : Nat} {W w : World} {A : Option Addr} {l : List RecT} (h : OBM 4 B W (.slice A n c) n (flatR l) w) (hn : l.length = n) : RowROk w (A, n, c, l) := by
  obtain ⟨A', c', e, h1, h2, h3⟩ := h.slice
  injection e with ea eb ec
  subst ea ec
  exact ⟨h.sl, fun e => (h3 e).1, hn⟩
set_option maxHeartbeats 6400000 in
theorem applyDelta_walk (w : World) (hE : Etype w) (z : Int) (hz : (Lit.int .u8 z).wf = true) (A : Option Addr) (n c : Nat) (ds : List ActT) (hV : Acts5 w A n c ds) (A2 : Option Addr) (n2 c2 : Nat) (ds2 : List ActT) (hV2 : Acts5 w A2 n2 c2 ds2)
    (A3 : Option Addr) (n3 c3 : Nat) (ds3 : List ActT) (hV3 : Acts5 w A3 n3 c3 ds3) (A4 : Option Addr) (n4 c4 : Nat) (ms : List Int) (S4 : SlView w A4 n4 c4 (ms.map (Value.int .u8))) (hl4 : ms.length = n4) (hz4 : ∀ z ∈ ms, (Lit.int .u8 z).wf = true) (B4 : c4 ≤ 140737488351232)
    (p : Int) (hp : (Lit.int .u8 p).wf = true) :
    Calls Tryd.prog 4 #[.int .u8 z, .slice A n c, .slice A2 n2 c2, .slice A3 n3 c3, .slice A4 n4 c4, .int .u8 p] w fun e w' => e = .returned (.bool true) ∧ Below w.heap.size w w' := by
  have hz8 := u8_wf hz
  obtain ⟨on, rfl⟩ : ∃ on : Nat, z = on := ⟨z.toNat, by omega⟩
  obtain ⟨k2, hp2, hp3, hp0⟩ := u8m2 hp
  obtain ⟨i0, hi, hz0, hz1, hz2⟩ := info_parts4 rec_info
  have OG := Lib.hid (fun w => origin_any on (by omega) w)
  have hob : (originB on).size ≤ maxLen := Nat.le_trans (originB_small on) (by decide)
  generalize originB on = o at *
  obtain ⟨FR, hFR⟩ : ∃ FR, FR = 2 + k2 := ⟨_, rfl⟩
  have f1 : IntKind.u32.wrap (k2 : Int) = (k2 : Int) := by show (k2 : Int) % 4294967296 = k2; omega
  have f2 : IntKind.u32.wrap (2 + (k2 : Int)) = (FR : Int) := by show (2 + (k2 : Int)) % 4294967296 = FR; omega
  have hn4 : n4 ≤ 140737488355328 := Nat.le_trans S4.le (Nat.le_trans B4 (by decide))
  obtain ⟨zl, hzl⟩ : ∃ zl, zl = zoneR o 3 ds 20 := ⟨_, rfl⟩
  have ZA : Hid (∀ wx, Below w.heap.size w wx → Calls Tryd.prog 18 #[.string o, .int .u32 3, .slice A n c, .int .i64 20] wx fun e w' => ∃ v, e = .returned v ∧ OBM 4 wx.heap.size wx v zl.length (flatR zl) w') := Lib.hid (fun wx hbx => by rw [hzl]; exact zone10_any o 3 (by omega) A n c 20 ds wx (hV.at_.below hbx) hV.most (by decide) hob)
  have UNF : Hid (∀ wx, Below w.heap.size w wx → Calls Tryd.prog 11 #[.string o, .slice A3 n3 c3, .int .i64 6, .bool false] wx fun e w' => ∃ v, ∃ rs : List RecT, e = .returned v ∧ rs.length ≤ 6 ∧ OBM 4 wx.heap.size wx v rs.length (flatR rs) w') := Lib.hid (fun wx hb => (under_any o A3 n3 c3 6 false ds3 wx (hV3.at_.below hb) hV3.most (by omega) hob).mono (by
    rintro e w' ⟨v, rfl, ho⟩
    exact ⟨v, _, rfl, by rw [undersOf_len]; omega, ho⟩))
  have UNG : Hid (∀ wx, Below w.heap.size w wx → Calls Tryd.prog 11 #[.string o, .slice A2 n2 c2, .int .i64 4, .bool false] wx fun e w' => ∃ v, ∃ rs : List RecT, e = .returned v ∧ rs.length ≤ 4 ∧ OBM 4 wx.heap.size wx v rs.length (flatR rs) w') := Lib.hid (fun wx hb => (under_any o A2 n2 c2 4 false ds2 wx (hV2.at_.below hb) hV2.most (by omega) hob).mono (by
    rintro e w' ⟨v, rfl, ho⟩
    exact ⟨v, _, rfl, by rw [undersOf_len]; omega, ho⟩))
  have SO2 : Hid (∀ w, Calls Tryd.prog 12 #[.string o, .int .u32 (FR : Nat)] w fun e w' => e = .returned (.agg #[.string o, .int .u16 6, .int .u32 9, .string (soaD FR)]) ∧ Below w.heap.size w w') := Lib.hid (fun w => soa9_any o FR (by omega) w)
  have SO4 : Hid (∀ w, Calls Tryd.prog 12 #[.string o, .int .u32 4] w fun e w' => e = .returned (.agg #[.string o, .int .u16 6, .int .u32 9, .string (soaD 4)]) ∧ Below w.heap.size w w') := Lib.hid (fun w => soa9_any o 4 (by omega) w)
  generalize soaD FR = D2 at *
  generalize soaD 4 = D4 at *
  have hzl1 : zl.length ≤ 21 := by rw [hzl]; exact zoneR_len _ _ _ _
  have hzl0 : 0 < zl.length := by
    rw [hzl]
    have : soaR o 3 ∈ zoneR o 3 ds 20 := by unfold zoneR; rw [sortedR_mem]; simp
    exact List.length_pos_of_mem this
  have HRI : Hid (Rising zl) := Lib.hid (by rw [hzl]; exact zoneR_rising _ _ _ _)
  -- the first act's number
  obtain ⟨tt, htt, htt2⟩ : ∃ tt : Nat, tt < 4294967296 ∧ (0 < n2 → ∃ bA offA, A2 = some ⟨bA, offA, none⟩ ∧ ∀ wx, Below w.heap.size w wx → wx.cell? ⟨bA, offA + 2, none⟩ = some (.int .u32 (tt : Nat))) := by
    by_cases h0 : 0 < n2
    · have hl := hV2.len
      obtain ⟨a, ha⟩ : ∃ a, ds2[0]? = some a := ⟨_, List.getElem?_eq_getElem (by omega)⟩
      obtain ⟨bA, offA, hA, hbA, hc⟩ := hV2.cells h0
      have hcc := (hc 0 a ha).2.2.1
      have hok := u32_wf (hV2.ok a (List.mem_of_getElem? ha)).2.2.1
      refine ⟨a.2.2.1.toNat, by omega, fun _ => ⟨bA, offA, hA, fun wx hb => ?_⟩⟩
      rw [(hb.cell (p := ⟨bA, offA + 2, none⟩) hbA), show ((a.2.2.1.toNat : Nat) : Int) = a.2.2.1 by omega]
      simpa using hcc
    · exact ⟨0, by omega, fun h => absurd h h0⟩
  have HTT := Lib.hid htt2
  obtain ⟨K4, hK4⟩ : ∃ q, q = tt % 4 := ⟨_, rfl⟩
  have t4 : (tt : Int).tmod 4 = (K4 : Int) := by rw [hK4]; exact mod10 tt 4 (by decide)
  have HET := Lib.hid hE
  have HS4 := Lib.hid S4.sl
  have HMS := Lib.hid hz4
  have HML := Lib.hid hl4
  clear hzl hob hz hp hV hV2 hV3 S4 hl4 hz4 B4 hz8 hE hFR htt htt2 hK4
  go_enter Tryd.func4, Tryd.ntmps4
  go_wp2_with fail
  refine (awake10_any _ HET.out).mono ?_
  rintro e w1 ⟨rfl, hb1⟩
  have HB1 := Lib.hid hb1
  clear hb1
  go_wp2_with fail
  refine (OG.out _).mono ?_
  rintro e w2 ⟨rfl, hb2⟩
  have HB2 := Lib.hid (below_trans HB1.out HB1.out.size hb2)
  clear hb2 OG
  go_wp2_with fail
  refine (ZA.out _ HB2.out).mono ?_
  rintro e w3 ⟨va, rfl, hoa⟩
  have HB3 := Lib.hid (below_trans HB2.out HB2.out.size hoa.bel)
  have HOA := Lib.hid hoa
  obtain ⟨AA, CA, rfl, ha1, ha2, -⟩ := hoa.slice
  obtain ⟨lz, hlz⟩ : ∃ lz, lz = zl.length := ⟨_, rfl⟩
  rw [← hlz] at hzl1 hzl0 HOA ha1
  rw [← hlz]
  have HLZ := Lib.hid hlz
  clear hoa hlz
  go_wp2_with fail
  refine (SO2.out _).mono ?_
  rintro e w4 ⟨rfl, hb4⟩
  have HB4 := Lib.hid (below_trans HB3.out HB3.out.size hb4)
  have HO4 := Lib.hid (HOA.out.keep hb4 (Nat.le_refl _))
  clear hb4 SO2 HOA
  go_wp2_with fail
  refine (SO4.out _).mono ?_
  rintro e w5 ⟨rfl, hb5⟩
  have HB5 := Lib.hid (below_trans HB4.out HB4.out.size hb5)
  have HO5 := Lib.hid (HO4.out.keep hb5 (Nat.le_refl _))
  clear hb5 SO4 HO4
  go_wp2_with fail
  refine (UNF.out _ HB5.out).mono ?_
  rintro e wS ⟨vN, N, rfl, hNl, hoN⟩
  have HBS := Lib.hid (below_trans HB5.out HB5.out.size hoN.bel)
  have HOS := Lib.hid (HO5.out.keep hoN.bel (Nat.le_refl _))
  have HON := Lib.hid hoN
  have HNL := Lib.hid hNl
  obtain ⟨AN, CN, rfl, hN1, hN2, -⟩ := hoN.slice
  obtain ⟨lN, hlN⟩ : ∃ l, l = N.length := ⟨_, rfl⟩
  rw [← hlN] at HON hN1 ⊢
  have HLN := Lib.hid hlN
  have HZR : Hid (Recs wS AA zl) := Lib.hid (HOS.out.recs HLZ.out.symm)
  clear UNF HO5 hoN hNl hlN
  go_upto_region 6 with fail
  obtain ⟨wb, hwb⟩ : ∃ wb, wb = wS.alloc (.cells #[.string o, .int .u16 6, .int .u32 9, .string D2, .string o, .int .u16 6, .int .u32 9, .string D4, .slice none 0 0, .slice AN lN CN] 48) := ⟨_, rfl⟩
  obtain ⟨B, hB⟩ : ∃ B, B = wS.heap.size := ⟨_, rfl⟩
  have HCB : Hid (Cs wb B [.string o, .int .u16 6, .int .u32 9, .string D2, .string o, .int .u16 6, .int .u32 9, .string D4, .slice none 0 0, .slice AN lN CN]) := Lib.hid (by rw [hwb, hB]; exact Cs.new wS _ _ _)
  have HSB : Hid (Below wS.heap.size wS wb) := Lib.hid (by rw [hwb]; exact (Below.refl _ _).alloc (Nat.le_refl _) _)
  have HLB : Hid (B < wb.heap.size ∧ wS.heap.size ≤ B) := Lib.hid (by rw [hwb, hB]; simp)
  rw [← hwb, ← hB]
  clear hwb hB
  have HBB := Lib.hid (below_trans HBS.out HBS.out.size HSB.out)
  obtain ⟨tb, htb⟩ : ∃ t, t = (decide (0 < n2) && decide (K4 = 0)) := ⟨_, rfl⟩
  have HTB := Lib.hid htb
  clear htb
  go_cut [52] (fun v wc => v = .bool tb ∧ wc = wb)
  case first =>
    have htb := HTB.out
    clear HTB
    by_cases h0 : 0 < n2
    · have h0i : (0 : Int) < n2 := by omega
      obtain ⟨bA, offA, rfl, hkt⟩ := HTT.out h0
      have kt := hkt wb HBB.out
      by_cases h4 : K4 = 0
      · have h4i : ((K4 : Int) == 0) = true := by simp; omega
        replace htb : tb = true := by rw [htb]; simp [h0, h4]
        subst htb
        clear hkt h4
        go_wp2_with fail
        go_meet
        exact ⟨rfl, rfl⟩
      · have h4i : ((K4 : Int) == 0) = false := by simp; omega
        replace htb : tb = false := by rw [htb]; simp [h4]
        subst htb
        clear hkt h4
        go_wp2_with fail
        go_meet
        exact ⟨rfl, rfl⟩
    · have h0i : ¬ (0 : Int) < n2 := by omega
      replace htb : tb = false := by rw [htb]; simp [h0]
      subst htb
      go_wp2_with fail
      go_meet
      exact ⟨rfl, rfl⟩
  case rest =>
  obtain ⟨rfl, hwc⟩ := hcut
  replace hwc := hwc.symm
  subst hwc
  clear HTB HTT
  rename_i Kx hKx Ky hKy
  refine hKy _ _ ?_
  obtain ⟨tmX, htmX⟩ : ∃ X : Nat, X = n4 := ⟨_, rfl⟩
  go_cut [] (fun wc => ∃ (G : List RecT) (v : Value), Hid (G.length ≤ 4) ∧ Hid (DelL wS B o D2 D4 (.slice AN lN CN) G v wc))
  case first =>
    cases tb with
    | false =>
      go_wp2_with fail
      go_meet
      exact ⟨[], .slice none 0 0, Lib.hid (by simp), Lib.hid ⟨HCB.out, OBM.nil HSB.out HSB.out.size, fun h => by cases h⟩⟩
    | true =>
      go_wp2_with fail
      refine (UNG.out _ HBB.out).mono ?_
      rintro e wu ⟨vG, G, rfl, hGl, hoG⟩
      obtain ⟨AG, CG, rfl, hG1, hG2, -⟩ := hoG.slice
      have hap : (Value.slice AG G.length CG).ownBlock ≠ some B := fun h => by
        have := (hoG.lt B h).1
        have := HLB.out.1
        omega
      have hcu := HCB.out.below hoG.bel
      have hou := (hoG.out HSB.out.size HSB.out).setOther B 8 (.slice AG G.length CG) HLB.out.2 hap
      have hcv := hcu.set' 8 (.slice AG G.length CG) (by simp)
      have HDL : Hid (DelL wS B o D2 D4 (.slice AN lN CN) G (.slice AG G.length CG) (wu.setCell ⟨B, 8, none⟩ (.slice AG G.length CG))) := Lib.hid ⟨hcv, hou, hap⟩
      have HGL := Lib.hid hGl
      have k8 := hcu.get 8 _
      have l8 := hcu.froz 8 (by simp)
      have m8 := hcu.lt
      clear hoG hou hcv hap hcu hGl hG1 hG2
      go_wp2_with fail
      go_meet
      exact ⟨G, _, HGL, HDL⟩
  case rest =>
  obtain ⟨G0, v0, HG0, HD0⟩ := hcut
  clear htmX UNG HCB HSB HBB
  refine hKx _ _ ?_
  go_wp2_with fail
  go_loopw [59] (fun i wr => ∃ (k : Nat) (G : List RecT) (v : Value), k ≤ n4 ∧ i = .int .i64 k ∧ Hid (G.length ≤ 4 + min k 6) ∧ Hid (DelL wS B o D2 D4 (.slice AN lN CN) G v wr)) (fun i _ => n4 - (intOf i).toNat)
  case atStart => exact ⟨0, G0, v0, Nat.zero_le _, rfl, Lib.hid (by have := HG0.out; omega), HD0⟩
  case round =>
    obtain ⟨k, G, v, hk, rfl, HGL, HD⟩ := hrel
    obtain ⟨AG, CG, hvG, hG1, hG2, -⟩ := HD.out.own.slice
    subst hvG
    by_cases hlt : k < n4
    · have hlt' : (k : Int) < n4 := by omega
      have hk0 : ¬ (k : Int) < 0 := by omega
      obtain ⟨b4, o4, u, rfl, hb4, hu, hcell⟩ := (HS4.out.below (below_trans HBS.out HBS.out.size HD.out.own.bel)).at_ hlt
      obtain ⟨x, hx, hxx⟩ : ∃ x, x ∈ ms ∧ u = .int .u8 x := by
        rw [List.getElem?_map] at hu
        cases hm : ms[k]? with
        | none => rw [hm] at hu; cases hu
        | some x => rw [hm] at hu; exact ⟨x, List.mem_of_getElem? hm, (Option.some.inj hu).symm⟩
      subst hxx
      have hxw := u8_wf (HMS.out x hx)
      obtain ⟨xn, rfl⟩ : ∃ xn : Nat, x = xn := ⟨x.toNat, by omega⟩
      obtain ⟨ix, hix, hixl, hw1, hw2⟩ := pick10 (x := xn) (lz := lz) (by omega) hzl0 (by omega)
      have hixi : (ix : Int) < lz := by omega
      have hix0 : ¬ (ix : Int) < 0 := by omega
      have hlz0 : ¬ (lz : Int) = 0 := by omega
      obtain ⟨r, hr⟩ : ∃ q, zl[ix]? = some q := ⟨_, List.getElem?_eq_getElem (by rw [← HLZ.out]; exact hixl)⟩
      obtain ⟨g, off, rfl, hg, z0, z1, z2, z3⟩ := (HZR.out.below HD.out.own.bel) ix _ hr
      obtain ⟨wa, hwa⟩ : ∃ wa, wa = wr.alloc (.cells #[.string r.1, .int .u16 r.2.1, .int .u32 r.2.2.1, .string r.2.2.2] 32) := ⟨_, rfl⟩
      obtain ⟨BA, hBA⟩ : ∃ B, B = wr.heap.size := ⟨_, rfl⟩
      have HCA : Hid (Cs wa BA [.string r.1, .int .u16 r.2.1, .int .u32 r.2.2.1, .string r.2.2.2]) := Lib.hid (by rw [hwa, hBA]; exact Cs.new wr _ _ _)
      have HDA : Hid (DelL wS B o D2 D4 (.slice AN lN CN) G (.slice AG G.length CG) wa) := Lib.hid (by rw [hwa]; exact ⟨HD.out.cs.alloc _, HD.out.own.alloc _, HD.out.apart⟩)
      have HWA := Lib.hid hwa
      have HBA := Lib.hid hBA
      clear hwa hBA hu hx hr
      go_upto_region 12 with fail
      rw [← HWA.out, ← HBA.out]
      have c0 := HCA.out.get 0 _
      have c1 := HCA.out.get 1 _
      have c2 := HCA.out.get 2 _
      have c3 := HCA.out.get 3 _
      have cl := HCA.out.lt
      clear z0 z1 z2 z3 hcell
      by_cases hk6 : k < 6
      · have hk6i : (k : Int) < 6 := by omega
        by_cases ht : r.2.1 = 6
        · have ht6 : (r.2.1 != 6) = false := by simp [ht]
          clear ht
          go_wp2_with fail
          go_roundw
          case rel => exact ⟨k + 1, G, _, by omega, by go_num, Lib.hid (by have := HGL.out; omega), HDA⟩
          case measure => simp [intOf]; omega
        · have ht6 : (r.2.1 != 6) = true := by simp [ht]
          clear ht
          have d8 := HDA.out.cs.get 8 _
          have dl := HDA.out.cs.lt
          have HBX := Lib.hid (HDA.out.own.alloc (.cells #[.string r.1, .int .u16 r.2.1, .int .u32 r.2.2.1, .string r.2.2.2] 32))
          have HCX := Lib.hid (HDA.out.cs.alloc (.cells #[.string r.1, .int .u16 r.2.1, .int .u32 r.2.2.1, .string r.2.2.2] 32))
          have hs := Lib.hid (src_rec (w := wa) (ts := 26) Tryd.underlying26 r)
          have hgl : G.length ≤ 10 := by have := HGL.out; omega
          go_wp2_with (at_builtin; go_loud (refine wpList_append_obm rfl _ _ 26 26 rfl 32 i0 _ 40 Tryd.underlying26 hi hz0 hz1 hz2 rfl HBX.out rfl rfl hs.out rfl (by unfold maxLen; omega) (by omega) ?_))
          intro v' w' q1 q2 q3 q4
          have hne := HDA.out.apart
          have hcw : Cs w' B [.string o, .int .u16 6, .int .u32 9, .string D2, .string o, .int .u16 6, .int .u32 9, .string D4, .slice AG G.length CG, .slice AN lN CN] := HCX.out.block (q3 B (by have := HDA.out.cs.lt; omega) (fun e => hne e.symm)) (by simpa using q2)
          have hap : v'.ownBlock ≠ some B := by
            rcases q4 with q4 | q4
            · rw [q4]; exact hne
            · rw [q4]; intro e; injection e with e; have := HDA.out.cs.lt; omega
          have q1' : OBM 4 wS.heap.size wS v' (G ++ [r]).length (flatR (G ++ [r])) w' := by rw [List.length_append, flatR_append]; simpa [flatR, recCells] using q1
          have hcv := hcw.set' 8 v' (by simp)
          have hou := q1'.setOther B 8 v' HLB.out.2 hap
          have HDV : Hid (DelL wS B o D2 D4 (.slice AN lN CN) (G ++ [r]) v' (w'.setCell ⟨B, 8, none⟩ v')) := Lib.hid ⟨hcv, hou, hap⟩
          have k8 := hcw.get 8 _
          have l8 := hcw.froz 8 (by simp)
          have m8 := hcw.lt
          obtain ⟨AV, CV, hvv, -⟩ := q1'.slice
          subst hvv
          rw [show (G ++ [r]).length = G.length + 1 from by simp] at HDV
          clear q1 q2 q3 q4 q1' hne hap hou hcv hcw d8 dl
          go_wp2_with fail
          go_roundw
          case rel => exact ⟨k + 1, G ++ [r], _, by omega, by go_num, Lib.hid (by have := HGL.out; rw [List.length_append]; simp; omega), HDV⟩
          case measure => simp [intOf]; omega
      · have hk6i : ¬ (k : Int) < 6 := by omega
        go_wp2_with fail
        go_roundw
        case rel => exact ⟨k + 1, G, _, by omega, by go_num, Lib.hid (by have := HGL.out; omega), HDA⟩
        case measure => simp [intOf]; omega
    · obtain rfl : k = n4 := by omega
      have hlt' : ¬ (k : Int) < k := by omega
      obtain ⟨X, hX⟩ : ∃ X, X = deltaR zl (o, 6, 9, D2) (o, 6, 9, D4) G N := ⟨_, rfl⟩
      have HX := Lib.hid hX
      have hgl : G.length ≤ 10 := by have := HGL.out; omega
      have hZA : ∀ wx, Below wr.heap.size wr wx → ZoneAt wx (.slice AA lz CA) zl := fun wx hb => by
        have h := HOS.out.keep (below_trans HD.out.own.bel HD.out.own.bel.size hb) (Nat.le_refl _)
        rw [HLZ.out] at h ⊢
        exact h.zone
      have hRG : ∀ wx, Below wr.heap.size wr wx → RowROk wx (AG, G.length, CG, G) := fun wx hb => (HD.out.own.keep hb (Nat.le_refl _)).rowR rfl
      have hRN : ∀ wx, Below wr.heap.size wr wx → RowROk wx (AN, lN, CN, N) := fun wx hb => (HON.out.keep (below_trans HD.out.own.bel HD.out.own.bel.size hb) (Nat.le_refl _)).rowR HLN.out.symm
      have DEL : Hid (Calls Tryd.prog 19 #[.slice AA lz CA, .agg #[.string o, .int .u16 6, .int .u32 9, .string D2, .string o, .int .u16 6, .int .u32 9, .string D4, .slice AG G.length CG, .slice AN lN CN]] wr (DeltaA X wr)) := Lib.hid (by
        rw [hX]
        exact delta_any (.slice AA lz CA) zl (o, 6, 9, D2) (o, 6, 9, D4) AG AN G.length CG lN CN G N wr (hZA wr (Below.refl _ _)) (by rw [← HLZ.out]; omega) HRI.out (hRG wr (Below.refl _ _)) (by omega) (hRN wr (Below.refl _ _)) (by have := HNL.out; have := HLN.out; omega))
      have DEL10 : Hid (∀ wx, Below wr.heap.size wr wx → Calls Tryd.prog 20 #[.slice AA lz CA, .agg #[.string o, .int .u16 6, .int .u32 9, .string D2, .string o, .int .u16 6, .int .u32 9, .string D4, .slice AG G.length CG, .slice AN lN CN]] wx (Delta10 X wx)) := Lib.hid (fun wx hb => by
        rw [hX]
        exact delta10_any (.slice AA lz CA) zl (o, 6, 9, D2) (o, 6, 9, D4) AG AN G.length CG lN CN G N wx (hZA wx hb) (by rw [← HLZ.out]; omega) HRI.out (hRG wx hb) (by omega) (hRG wx hb).none_ (hRN wx hb) (by have := HNL.out; have := HLN.out; omega) (hRN wx hb).none_)
      have HBR := Lib.hid (below_trans HBS.out HBS.out.size HD.out.own.bel)
      have HCR := Lib.hid HD.out.cs
      have HZX : Hid (∀ wx, Below wr.heap.size wr wx → Recs wx AA zl) := Lib.hid (fun wx hb => HZR.out.below (below_trans HD.out.own.bel HD.out.own.bel.size hb))
      have d0 := HCR.out.get 0 _
      have d1 := HCR.out.get 1 _
      have d2 := HCR.out.get 2 _
      have d3 := HCR.out.get 3 _
      have d4 := HCR.out.get 4 _
      have d5 := HCR.out.get 5 _
      have d6 := HCR.out.get 6 _
      have d7 := HCR.out.get 7 _
      have d8 := HCR.out.get 8 _
      have d9 := HCR.out.get 9 _
      have dl := HCR.out.lt
      clear hX hZA hRG hRN HD HS4 HMS HML
      go_wp2_with fail
      refine DEL.out.mono ?_
      intro ex wx hDA
      rcases hDA with ⟨er, hx, rfl, hbx⟩ | ⟨z', vx, hx, rfl, hox⟩
      · have HXE := Lib.hid hx
        have HBX := Lib.hid hbx
        have HCX := Lib.hid (HCR.out.below hbx)
        have her := deltaR_errs (HX.out.symm.trans hx)
        have HER : Hid (er = 5 ∨ er = 6 ∨ er = 7) := Lib.hid her
        have e0 := HCX.out.get 0 _
        have e1 := HCX.out.get 1 _
        have e2 := HCX.out.get 2 _
        have e3 := HCX.out.get 3 _
        have e4 := HCX.out.get 4 _
        have e5 := HCX.out.get 5 _
        have e6 := HCX.out.get 6 _
        have e7 := HCX.out.get 7 _
        have e8 := HCX.out.get 8 _
        have e9 := HCX.out.get 9 _
        have el := HCX.out.lt
        clear hx hbx d0 d1 d2 d3 d4 d5 d6 d7 d8 d9 dl DEL her
        unfold errV
        go_wp2_with fail
        refine (DEL10.out _ HBX.out).mono ?_
        intro ey wy hDB
        rcases hDB with ⟨er2, hy, rfl, hby⟩ | ⟨z2, v2, hy, rfl, hoy⟩
        · have : er2 = er := by have := hy.symm.trans HXE.out; injection this
          subst this
          have HBY := Lib.hid (below_trans HBR.out HBR.out.size (below_trans HBX.out HBX.out.size hby))
          have NE := Lib.hid (number_errno (er2 : Int) wy (HET.out.keep (Nat.le_refl _) HBY.out))
          have hne : ((er2 : Int) != 0) = true := by have := HER.out; simp; omega
          clear hy hby DEL10
          go_wp2_with fail
          refine NE.out.mono ?_
          rintro e wz ⟨rfl, hbz⟩
          have HBZ := Lib.hid (below_trans HBY.out HBY.out.size hbz)
          clear hbz NE
          go_wp2_with fail
          go_ret
          exact ⟨rfl, HBZ.out⟩
        · exfalso
          have := hy.symm.trans HXE.out
          cases this
      · have HXE := Lib.hid hx
        obtain ⟨AX, CX, rfl, hx1, hx2, -⟩ := hox.slice
        have HBX := Lib.hid hox.bel
        have HRX := Lib.hid (hox.recs rfl)
        have HCX := Lib.hid (HCR.out.below hox.bel)
        have e0 := HCX.out.get 0 _
        have e1 := HCX.out.get 1 _
        have e2 := HCX.out.get 2 _
        have e3 := HCX.out.get 3 _
        have e4 := HCX.out.get 4 _
        have e5 := HCX.out.get 5 _
        have e6 := HCX.out.get 6 _
        have e7 := HCX.out.get 7 _
        have e8 := HCX.out.get 8 _
        have e9 := HCX.out.get 9 _
        have el := HCX.out.lt
        clear hx hox d0 d1 d2 d3 d4 d5 d6 d7 d8 d9 dl DEL
        go_wp2_with fail
        refine (DEL10.out _ HBX.out).mono ?_
        intro ey wy hDB
        rcases hDB with ⟨er2, hy, rfl, hby⟩ | ⟨z2, v2, hy, rfl, hoy⟩
        · exfalso
          have := hy.symm.trans HXE.out
          cases this
        · have : z2 = z' := by have := hy.symm.trans HXE.out; injection this
          subst this
          obtain ⟨AY, CY, rfl, hy1, hy2, -⟩ := hoy.slice
          have HBY := Lib.hid (below_trans HBR.out HBR.out.size (below_trans HBX.out HBX.out.size hoy.bel))
          have HBRY := Lib.hid (below_trans HBX.out HBX.out.size hoy.bel)
          have hzm : z2.length ≤ maxLen := Nat.le_trans hx1 hx2
          have SM := same_recs AX AY CX CY z2 z2 wy (HRX.out.below hoy.bel) (hoy.recs rfl) hzm hzm
          simp only [decide_true] at SM
          have SM := Lib.hid SM
          clear hy hoy DEL10 hx1 hx2 hy1 hy2 hzm
          obtain ⟨lx, hlx⟩ : ∃ l, l = z2.length := ⟨_, rfl⟩
          rw [← hlx] at SM ⊢
          clear hlx
          go_wp2_with fail
          refine SM.out.mono ?_
          rintro e wz ⟨rfl, hbz⟩
          have HBZ := Lib.hid (below_trans HBY.out HBY.out.size hbz)
          have HBRZ := Lib.hid (below_trans HBRY.out HBRY.out.size hbz)
          clear hbz SM
          go_wp2_with fail
          refine (ZA.out _ HBZ.out).mono ?_
          rintro e wq ⟨vq, rfl, hoq⟩
          obtain ⟨AQ, CQ, rfl, hq1, hq2, -⟩ := hoq.slice
          have HBQ := Lib.hid (below_trans HBZ.out HBZ.out.size hoq.bel)
          have SM2 := same_recs AA AQ CA CQ zl zl wq (HZX.out wq (below_trans HBRZ.out HBRZ.out.size hoq.bel)) (hoq.recs rfl) (by rw [← HLZ.out]; unfold maxLen; omega) (by rw [← HLZ.out]; unfold maxLen; omega)
          rw [← HLZ.out] at SM2 ⊢
          simp only [decide_true] at SM2
          have SM2 := Lib.hid SM2
          clear hoq ZA hq1 hq2
          go_wp2_with fail
          refine SM2.out.mono ?_
          rintro e wt ⟨rfl, hbt⟩
          have HBT := Lib.hid (below_trans HBQ.out HBQ.out.size hbt)
          clear hbt SM2
          go_wp2_with fail
          go_ret
          exact ⟨rfl, HBT.out⟩
end Go.Proofs.YteaeplceahdioaaDoor
namespace Go.Proofs.YteaeplceahdioaaDoor
open Go.ChangeShapes Go.WideShapes Go.RowKit
theorem laid_et : Tryd.prog.globalNamed "errors.errorType" = some 0 := by kernel_rfl
theorem laid_rt : (Tryd.prog.cutTypes.find? (·.1 == "internal/reflectlite.rtype")).map (·.2) = some 140 := by kernel_rfl
theorem laid_row : ((List.range 197).filter fun t => Tryd.prog.rowNamed t [101, 114, 114, 111, 114]) = [37] := by kernel_rfl
theorem laid_size : Tryd.prog.types.size = 197 := by kernel_rfl
/-- The rows' list. -/
abbrev laidE : List (String × DataW Unit) := [("errors.errorType", Rows.laid_errors_errorType)]
theorem etype_of_laid {W : World} (h : laidMetH Tryd.prog laidE W) : Etype W := by
  have h' : laidMet Tryd.prog [] W ∧ handlesMet Tryd.prog laidE W := h
  obtain ⟨name, u, ty, e1, e2, e3, e4, e5⟩ := h'.2 _ (List.mem_singleton.2 rfl)
  have en : name = [101, 114, 114, 111, 114] := (Option.some.inj e1).symm
  subst en
  obtain rfl := Option.some.inj (laid_rt.symm.trans e2)
  have hm : ty ∈ (List.range 197).filter fun t => Tryd.prog.rowNamed t [101, 114, 114, 111, 114] := List.mem_filter.2 ⟨List.mem_range.2 (by rw [← laid_size]; exact e3), e4⟩
  rw [laid_row] at hm
  obtain rfl := List.mem_singleton.1 hm
  have hh : typeHandle Tryd.prog 37 = .pointer (some ⟨1, 37, none⟩) := by kernel_rfl
  rw [hh] at e5
  have e6 := World.var?_cell laid_et e5 0
  unfold Etype
  simpa using e6
/-- The settled world, the variable's cell laid. -/
noncomputable def laidWorld (os : Os) : World :=
  let w0 := World.holding Tryd.prog os ⟨#[], #[], []⟩
  { w0 with heap := w0.heap.modify 0 fun
      | .cells _ t fz => .cells #[.iface 140 (.agg #[.pointer (some ⟨1, 37, none⟩)])] t fz
      | o => o }
theorem laidWorld_met (os : Os) (args : Array Value) : laidMetH Tryd.prog laidE ((laidWorld os).forCall (fun _ _ => 0) ⟨#[], args, []⟩).memory :=
  laidMetH_of_parts (laidMet_nil _ _) (by kernel_rfl)
end Go.Proofs.YteaeplceahdioaaDoor
