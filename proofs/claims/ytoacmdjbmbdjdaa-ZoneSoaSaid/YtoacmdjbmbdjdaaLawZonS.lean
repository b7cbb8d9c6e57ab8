/- The walk of ZoneSoa. -/
import Derived.Test.YtoacmdjbmbdjdaaZonE
namespace Go.Proofs.Ytoacmdjbmbdjdaa
open Go.RowKit
set_option linter.unusedVariables false
set_option linter.unusedSimpArgs false
set_option maxRecDepth 20000
def zeroR : RecT := (⟨#[]⟩, 0, 0, ⟨#[]⟩)
def isSoaR (r : RecT) : Bool := r.2.1 == 6
def soaR (rs : List RecT) : Option RecT := rs.find? isSoaR
theorem soaR_next {rs : List RecT} {k : Nat} {r : RecT} (h : rs[k]? = some r) : soaR (rs.take (k + 1)) = (soaR (rs.take k)).or (if isSoaR r then some r else none) := by
  unfold soaR
  rw [List.take_add_one, h, List.find?_append]
  congr 1
  simp only [Option.toList_some, List.find?_cons, List.find?_nil]
  cases isSoaR r <;> rfl
theorem soaR_at {rs : List RecT} {k : Nat} {r : RecT} (h0 : soaR (rs.take k) = none) (h : rs[k]? = some r) (hs : isSoaR r = true) : soaR rs = some r := by
  have h1 := soaR_next h
  rw [h0, hs] at h1
  have e : soaR (rs.take (k + 1)) = some r := by rw [h1]; rfl
  have : rs = rs.take (k + 1) ++ rs.drop (k + 1) := (List.take_append_drop _ _).symm
  rw [this]
  unfold soaR at e ⊢
  rw [List.find?_append, e]; rfl
set_option maxHeartbeats 1600000 in
theorem soaz_any (A : Option Addr) (n c : Nat) (rs : List RecT) (w : World) (h : Recs w A rs) (hl : rs.length = n) (hn : n ≤ maxLen) :
    Calls Try.prog 18 #[.slice A n c] w fun e w' => e = .returned (.tuple #[recV ((soaR rs).getD zeroR), .bool (soaR rs).isSome]) ∧ Below w.heap.size w w' := by
  unfold maxLen at hn
  obtain ⟨W, hW⟩ : ∃ W, W = w.alloc (.cells #[.string ⟨#[]⟩, .int .u16 0, .int .u32 0, .string ⟨#[]⟩] 27) := ⟨_, rfl⟩
  have hD : Cs W w.heap.size [.string ⟨#[]⟩, .int .u16 0, .int .u32 0, .string ⟨#[]⟩] := by rw [hW]; exact Cs.new w _ _ _
  have hbW : Below w.heap.size w W := by rw [hW]; exact (Below.refl _ _).alloc (Nat.le_refl _) _
  obtain ⟨g, hg⟩ : ∃ g, g = w.heap.size := ⟨_, rfl⟩
  rw [← hg] at hD
  obtain ⟨S, hSS⟩ : ∃ S, soaR rs = S := ⟨_, rfl⟩
  rw [hSS]
  have HSS := Lib.hid hSS
  clear hSS
  have HL := Lib.hid hl
  have HW := Lib.hid hW
  have HD := Lib.hid hD
  have HBW := Lib.hid hbW
  have HG := Lib.hid hg
  have HR := Lib.hid (h.below hbW)
  have hgw : w.heap.size ≤ g := by omega
  clear h hW hD hbW hg hl
  go_enter Try.func18, Try.ntmps18
  go_wp2_with fail
  rw [← HW.out, ← HG.out]
  go_loopw [8] (fun i wr => ∃ k : Nat, k ≤ n ∧ i = .int .i64 k ∧ Hid (soaR (rs.take k) = none) ∧ Hid (Below W.heap.size W wr)) (fun i _ => n - (intOf i).toNat)
  case atStart => exact ⟨0, Nat.zero_le _, rfl, Lib.hid (by simp [soaR]), Lib.hid (Below.refl _ _)⟩
  case round =>
    obtain ⟨k, hk, rfl, HK, HB⟩ := hrel
    have hDr := HD.out.below HB.out
    have d0 := hDr.get 0 _
    have d1 := hDr.get 1 _
    have d2 := hDr.get 2 _
    have d3 := hDr.get 3 _
    have f0 := hDr.froz 0
    have f1 := hDr.froz 1
    have f2 := hDr.froz 2
    have f3 := hDr.froz 3
    have hgl := hDr.lt
    have HBw := Lib.hid (below_trans HBW.out HBW.out.size HB.out)
    clear hDr
    by_cases hlt : k < n
    · have hlt' : (k : Int) < n := by omega
      obtain ⟨r, hr⟩ : ∃ q, rs[k]? = some q := ⟨_, List.getElem?_eq_getElem (by rw [HL.out]; exact hlt)⟩
      obtain ⟨b, off, rfl, hb, z0, z1, z2, z3⟩ := (HR.out.below HB.out) k _ hr
      have HQ := Lib.hid hr
      clear hr
      cases e6 : (r.2.1 == 6) with
      | true =>
        have HS := Lib.hid (soaR_at HK.out HQ.out e6)
        obtain rfl : S = some r := HSS.out.symm.trans HS.out
        go_wp2_with fail
        refine bodyPost_ret (v := .tuple #[.agg #[.string r.1, .int .u16 r.2.1, .int .u32 r.2.2.1, .string r.2.2.2], .bool true]) (by simp [results, Try.results18, go_sem, d0, d1, d2, d3, hgl]) rfl ⟨rfl, ?_⟩
        refine Below.alloc ?_ (by simpa using HBw.out.size) _
        iterate 4 (refine Below.setCell ?_ hgw _)
        exact HBw.out
      | false =>
        have HN : Hid (soaR (rs.take (k + 1)) = none) := Lib.hid (by rw [soaR_next HQ.out, HK.out]; unfold isSoaR; rw [e6]; rfl)
        clear d0 d1 d2 d3 f0 f1 f2 f3
        go_wp2_with fail
        go_round
        case rel => exact ⟨k + 1, by omega, by go_num, HN, Lib.hid (HB.out.alloc HB.out.size _)⟩
        case measure => simp [intOf]; omega
    · have hlt' : ¬ (k : Int) < n := by omega
      have HN : Hid (soaR rs = none) := Lib.hid (by have := HK.out; rwa [List.take_of_length_le (by rw [HL.out]; omega)] at this)
      obtain rfl : S = none := HSS.out.symm.trans HN.out
      go_wp2_with fail
      refine bodyPost_ret (v := .tuple #[.agg #[.string ⟨#[]⟩, .int .u16 0, .int .u32 0, .string ⟨#[]⟩], .bool false]) (by simp [results, Try.results18, go_sem, d0, d1, d2, d3]) rfl ⟨rfl, ?_⟩
      first
      | exact HBw.out
      | (iterate 4 (refine Below.setCell ?_ hgw _)
         exact HBw.out)
set_option maxHeartbeats 3200000 in
theorem zoneSoa_walk (w : World) (A : Option Addr) (n c : Nat) (ds : List ActT) (hV : Acts5 w A n c ds) :
    Calls Try.prog 5 #[.slice A n c] w fun e w' => e = .returned (.bool true) ∧ Below w.heap.size w w' := by
  have HV := Lib.hid hV
  clear hV
  go_enter Try.func5, Try.ntmps5
  go_wp2_with fail
  refine (awake08_any _).mono ?_
  rintro e w1 ⟨rfl, hb1⟩
  have HB1 := Lib.hid hb1
  clear hb1
  go_wp2_with fail
  refine (records_any A n c 40 ds w1 (HV.out.at_.below HB1.out) HV.out.most (by decide)).mono ?_
  rintro e w2 ⟨v1, rfl, ho1⟩
  obtain ⟨rs, hrs⟩ : ∃ rs, rs = recsOf ds 40 := ⟨_, rfl⟩
  rw [← hrs] at ho1
  obtain ⟨N, hN⟩ : ∃ N, rs.length = N := ⟨_, rfl⟩
  have hN8 : N ≤ 40 := by rw [← hN, hrs, recsOf_len]; omega
  obtain ⟨A1, c1, rfl, -, -, -⟩ := ho1.slice
  have HR2 := Lib.hid (ho1.recs rfl)
  rw [hN]
  have HB2 := Lib.hid (below_trans HB1.out HB1.out.size ho1.bel)
  have HN := Lib.hid hN
  clear ho1 hrs hN HB1
  obtain ⟨W, hW⟩ : ∃ W, W = w2.alloc (.cells #[.string ⟨#[]⟩, .int .u16 0, .int .u32 0, .string ⟨#[]⟩] 27) := ⟨_, rfl⟩
  obtain ⟨g, hg⟩ : ∃ g, g = w2.heap.size := ⟨_, rfl⟩
  have hD : Cs W g (recCells zeroR) := by rw [hW, hg]; exact Cs.new w2 _ _ _
  have HW := Lib.hid hW
  have HG := Lib.hid hg
  have HD := Lib.hid hD
  have HBW := Lib.hid (show Below w2.heap.size w2 W by rw [hW]; exact (Below.refl _ _).alloc (Nat.le_refl _) _)
  have hgw : w2.heap.size ≤ g := by omega
  clear hW hg hD
  go_wp2_with fail
  rw [← HW.out, ← HG.out]
  go_loopw [5, 17] (fun v i wr => ∃ k : Nat, ∃ S : Option RecT, k ≤ N ∧ i = .int .i64 k ∧ v = .bool S.isSome ∧ Hid (soaR (rs.take k) = S) ∧ Hid (Below w2.heap.size w2 wr) ∧ Hid (Cs wr g (recCells (S.getD zeroR)))) (fun _ i _ => N - (intOf i).toNat)
  case atStart => exact ⟨0, none, Nat.zero_le _, rfl, rfl, Lib.hid (by simp [soaR]), HBW, HD⟩
  case round =>
    obtain ⟨k, S, hk, rfl, rfl, HS, HB, HC⟩ := hrel
    by_cases hlt : k < N
    · have hlt' : (k : Int) < N := by omega
      obtain ⟨r, hr⟩ : ∃ q, rs[k]? = some q := ⟨_, List.getElem?_eq_getElem (by rw [HN.out]; exact hlt)⟩
      obtain ⟨b, off, rfl, hb, z0, z1, z2, z3⟩ := (HR2.out.below HB.out) k _ hr
      have HQ := Lib.hid (soaR_next hr)
      rw [HS.out] at HQ
      clear hr
      cases S with
      | some q =>
        cases e6 : (r.2.1 == 6) <;>
        · go_wp2_with fail
          go_round
          case rel => exact ⟨k + 1, some q, by omega, by go_num, rfl, Lib.hid (by rw [HQ.out]; rfl), Lib.hid (HB.out.alloc HB.out.size _), Lib.hid (HC.out.alloc _)⟩
          case measure => simp [intOf]; omega
      | none =>
        cases e6 : (r.2.1 == 6) with
        | false =>
          go_wp2_with fail
          go_round
          case rel => exact ⟨k + 1, none, by omega, by go_num, rfl, Lib.hid (by rw [HQ.out]; unfold isSoaR; rw [e6]; rfl), Lib.hid (HB.out.alloc HB.out.size _), Lib.hid (HC.out.alloc _)⟩
          case measure => simp [intOf]; omega
        | true =>
          have hc : Cs wr g [.string ⟨#[]⟩, .int .u16 0, .int .u32 0, .string ⟨#[]⟩] := HC.out
          have d0 := hc.get 0 _
          have d1 := hc.get 1 _
          have d2 := hc.get 2 _
          have d3 := hc.get 3 _
          have f0 := hc.froz 0
          have f1 := hc.froz 1
          have f2 := hc.froz 2
          have f3 := hc.froz 3
          have hgl := hc.lt
          have HQ6 : Hid (soaR (rs.take (k + 1)) = some r) := Lib.hid (by rw [HQ.out]; unfold isSoaR; rw [e6]; rfl)
          have HC4 : Hid (Cs ((((wr.setCell ⟨g, 0, none⟩ (.string r.1)).setCell ⟨g, 1, none⟩ (.int .u16 r.2.1)).setCell ⟨g, 2, none⟩ (.int .u32 r.2.2.1)).setCell ⟨g, 3, none⟩ (.string r.2.2.2)) g (recCells r)) := Lib.hid ((((hc.set' 0 _ (by simp)).set' 1 _ (by simp)).set' 2 _ (by simp)).set' 3 _ (by simp))
          clear hc
          go_wp2_with fail
          go_round
          case rel =>
            refine ⟨k + 1, some r, by omega, by go_num, rfl, HQ6, Lib.hid ?_, Lib.hid ?_⟩
            · refine Below.alloc ?_ (by simpa using HB.out.size) _
              iterate 4 (refine Below.setCell ?_ hgw _)
              exact HB.out
            · exact HC4.out.alloc _
          case measure => simp [intOf]; omega
    · have hlt' : ¬ (k : Int) < N := by omega
      have hS : soaR rs = S := by have := HS.out; rwa [List.take_of_length_le (by rw [HN.out]; omega)] at this
      have SZ := Lib.hid (fun w h => soaz_any A1 N c1 rs w h HN.out (by unfold maxLen; omega))
      rw [hS] at SZ
      have EQ := fun w => rec_eql (S.getD zeroR) (S.getD zeroR) w
      rw [(eqB_iff _ _).2 rfl] at EQ
      have HBB := Lib.hid (below_trans HB2.out HB2.out.size HB.out)
      obtain ⟨q, hq⟩ : ∃ q, S.getD zeroR = q := ⟨_, rfl⟩
      obtain ⟨t, ht⟩ : ∃ t, S.isSome = t := ⟨_, rfl⟩
      rw [hq] at SZ EQ HC
      rw [ht] at SZ ⊢
      unfold recV at SZ EQ
      have HEQ := Lib.hid EQ
      clear hq ht hS EQ
      go_wp2_with fail
      refine (SZ.out wr (HR2.out.below HB.out)).mono ?_
      rintro e w4 ⟨rfl, hb4⟩
      have hc4 : Cs w4 g [.string q.1, .int .u16 q.2.1, .int .u32 q.2.2.1, .string q.2.2.2] := HC.out.below hb4
      have d0 := hc4.get 0 _
      have d1 := hc4.get 1 _
      have d2 := hc4.get 2 _
      have d3 := hc4.get 3 _
      have hgl := hc4.lt
      have hqq := HEQ.out
      have HB4 := Lib.hid (below_trans HBB.out HBB.out.size hb4)
      have htt : (t == t) = true := by simp
      clear hc4 hb4
      go_wp2_with fail
      go_ret
      exact ⟨rfl, HB4.out.alloc HB4.out.size _⟩
end Go.Proofs.Ytoacmdjbmbdjdaa
