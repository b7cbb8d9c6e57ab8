/- The contract of layer 13: Address. -/
import Derived.Test.YtkdknfedieeenaaGreatDoorOwnE
import Derived.Test.YtkdknfedieeenaaGreatDoorCs
namespace Go.Proofs.YtkdknfedieeenaaGreatDoor
open Go.RowKit
set_option linter.unusedVariables false
set_option maxRecDepth 20000

def addrV : Option (List UInt8 × Int) → Value
  | some p => .tuple #[.agg #[sv p.1, .int .i64 p.2], .bool true]
  | none => .tuple #[.agg #[.string ⟨#[]⟩, .int .i64 0], .bool false]
theorem addrR_short {ls : List (List UInt8)} (h : ls.length < 2 ∨ 9 < ls.length) : addrR ls = none := by unfold addrR; rw [if_pos h]
theorem addrR_num {l : List UInt8} {r : List (List UInt8)} (h : ∀ v, Lib.atoiAll l ≠ .ok v) : addrR (l :: r) = none := by
  unfold addrR
  split
  · rfl
  · split
    · rename_i bits hb
      exact absurd hb (h bits)
    · rfl
theorem addrR_ok {l : List UInt8} {r : List (List UInt8)} {v : Int} (h2 : ¬ ((l :: r).length < 2 ∨ 9 < (l :: r).length)) (h : Lib.atoiAll l = .ok v) :
    addrR (l :: r) = if prefixR (candA r.reverse) v = l :: r then some (candA r.reverse, v) else none := by
  unfold addrR
  rw [if_neg h2]
  simp only [List.headD_cons, List.tail_cons]
  rw [h]
  rfl

def addrIf (R Y : List (List UInt8)) (v : Int) : Value := addrV (if prefixR (candA R) v = Y then some (candA R, v) else none)
theorem prefixR_len (a : List UInt8) (v : Int) : (prefixR a v).length ≤ 9 := by
  unfold prefixR
  split
  · rename_i h
    have := body_length a (isCut_four (mayP_cut h)).1
    unfold prefixL
    simp; omega
  · simp
theorem candA_len (R : List (List UInt8)) (h : R.length ≤ 8) : (candA R).length ≤ 200 := by
  unfold candA
  split
  · unfold plainBytesR; simp; omega
  · unfold wordBytesR
    have : ∀ (L : List (List UInt8)) (M : Nat), M ≤ 9 → (L.flatMap fun s => if s = zz then List.replicate (2 * M) (0 : UInt8) else unword (val16 s)).length ≤ 18 * L.length := by
      intro L M hM
      induction L with
      | nil => simp
      | cons x L ih =>
        rw [List.flatMap_cons, List.length_append]
        have : (if x = zz then List.replicate (2 * M) (0 : UInt8) else unword (val16 x)).length ≤ 18 := by
          split
          · simp; omega
          · simp [unword]
        simp only [List.length_cons]
        omega
    have := this R (9 - R.length) (by omega)
    omega
set_option maxHeartbeats 8000000 in
theorem address13_any (A : Option Addr) (n c : Nat) (ts : List ByteArray) (w : World) (hA : Sl w w.heap.size 1 A n (ts.map .string)) (hnc : n ≤ c) (hsz : ∀ t ∈ ts, t.size ≤ 140737488355328) (hn : n ≤ maxLen) (hL : LaidT w) :
    Calls Tryz.prog 81 #[.slice A n c] w fun e w' => e = .returned (addrV (addrR (bytesOf ts))) ∧ Below w.heap.size w w' := by
  have hts : ts.length = n := by simpa using hA.1
  unfold maxLen at hn
  have hR := Tryz.results81
  by_cases hshort : n < 2 ∨ 9 < n
  · rw [addrR_short (by rw [bytesOf_length, hts]; exact hshort)]
    rcases hshort with h2 | h9
    · go_enter Tryz.func81, Tryz.ntmps81
      go_wp2_with fail
      exact bodyPost_ret (v := .tuple #[noPrefix, .bool false]) (by simp [results, Tryz.results81, go_sem, noPrefix]) rfl ⟨rfl, (Below.refl _ _).alloc (Nat.le_refl _) _⟩
    · have h2 : ¬ n < 2 := by omega
      go_enter Tryz.func81, Tryz.ntmps81
      go_wp2_with fail
      exact bodyPost_ret (v := .tuple #[noPrefix, .bool false]) (by simp [results, Tryz.results81, go_sem, noPrefix]) rfl ⟨rfl, (Below.refl _ _).alloc (Nat.le_refl _) _⟩
  · obtain ⟨b, off, rfl, hb, hc⟩ := hA.2 (by omega)
    obtain ⟨t0, tr, rfl⟩ : ∃ t0 tr, ts = t0 :: tr := by
      cases ts with
      | nil => simp at hts; omega
      | cons a r => exact ⟨a, r, rfl⟩
    all_goals
      have h0 := hc 0 (.string t0) rfl
      have htail : Sl w w.heap.size 1 (some ⟨b, off + 1, none⟩) (n - 1) ((bytesOf tr).map sv) := by
        have := Sl.dropO (k := 1) (n := n - 1) (by rw [show 1 + (n - 1) = n by omega]; exact hA)
        rw [← strings_sv]
        simpa using this
      have hall : Sl w w.heap.size 1 (some ⟨b, off, none⟩) n ((bytesOf (t0 :: tr)).map sv) := by rw [← strings_sv]; exact hA
      have hsz0 := hsz t0 (by simp)
      have hszr : ∀ t ∈ tr, t.size ≤ 281474976710656 := fun t ht => by have := hsz t (by simp [ht]); omega
      have hlb : (bytesOf (t0 :: tr)).length = n := by rw [bytesOf_length]; exact hts
      have hcell : (w.alloc (.cells #[.string ⟨#[]⟩, .int .i64 0] 44)).cell? ⟨b, off, none⟩ = some (.string t0) := by
        rw [World.cell?_alloc_lt w _ _ hb]; exact h0
      have hcs := Cs.new w #[.string ⟨#[]⟩, .int .i64 0] 44 [.string ⟨#[]⟩, .int .i64 0]
      have hL0 := hL.alloc (.cells #[.string ⟨#[]⟩, .int .i64 0] 44)
      have hbel0 : Below w.heap.size w (w.alloc (.cells #[.string ⟨#[]⟩, .int .i64 0] 44)) := (Below.refl _ _).alloc (Nat.le_refl _) _
      have hbase : w.heap.size ≤ (w.alloc (.cells #[.string ⟨#[]⟩, .int .i64 0] 44)).heap.size := by simp
      have n2 : ¬ n < 2 := by omega
      have n9 : ¬ 9 < n := by omega
      have HC := Lib.hid hcs
      have HL0 := Lib.hid hL0
      have HT := Lib.hid htail
      have HALL := Lib.hid hall
      have HB0 := Lib.hid hbel0
      have HBASE := Lib.hid hbase
      have HSZR := Lib.hid hszr
      have HLB := Lib.hid hlb
      have HTS := Lib.hid hts
      by_cases hnum : ∀ v, Lib.atoiAll t0.data.toList ≠ .ok v
      · have hr : addrR (bytesOf (t0 :: tr)) = none := addrR_num hnum
        rw [hr]
        have hat := atoi_no t0 (by omega) hnum _ hL0
        have HAT := Lib.hid hat
        clear hcs hL0 htail hall hbel0 hbase hat hnum hr hc h0 hsz hszr hsz0 hts hlb hA hL hshort
        go_enter Tryz.func81, Tryz.ntmps81
        go_wp2_with (go_at_call 112; refine HAT.out.mono ?_; rintro e w1 ⟨v, N, rfl, hb1⟩; refine Hid.out ?_)
        refine Lib.hid ?_
        have hC1 := HC.out.below hb1
        have k0 := hC1.get 0 (.string ⟨#[]⟩)
        have k1 := hC1.get 1 (.int .i64 0)
        have z0 := hC1.froz 0
        have z1 := hC1.froz 1
        have hfin := (hC1.set' 0 (.string ⟨#[]⟩) (by decide)).set' 1 (.int .i64 0) (by decide)
        have g0 := hfin.get 0 (.string ⟨#[]⟩)
        have g1 := hfin.get 1 (.int .i64 0)
        have hbe := ((HB0.out.trans (hb1.mono HBASE.out)).setCell (p := ⟨w.heap.size, 0, none⟩) (Nat.le_refl _) (.string ⟨#[]⟩)).setCell (p := ⟨w.heap.size, 1, none⟩) (Nat.le_refl _) (.int .i64 0)
        have HBE := Lib.hid hbe
        have G0 := Lib.hid g0
        have G1 := Lib.hid g1
        clear hb1 hC1 hbe g0 g1 hfin
        go_wp2_with fail
        refine bodyPost_ret (v := .tuple #[noPrefix, .bool false]) ?_ rfl ⟨rfl, HBE.out⟩
        have g0 := G0.out
        have g1 := G1.out
        simp [results, Tryz.results81, go_sem, noPrefix, g0, g1]
      · obtain ⟨v, hv⟩ : ∃ v, Lib.atoiAll t0.data.toList = .ok v := Classical.byContradiction fun h => hnum fun v hv => h ⟨v, hv⟩
        have hr : addrR (bytesOf (t0 :: tr)) = _ := addrR_ok (l := t0.data.toList) (r := bytesOf tr) (by rw [show t0.data.toList :: bytesOf tr = bytesOf (t0 :: tr) from rfl, hlb]; exact hshort) hv
        rw [hr]
        have hat := fun w => atoi_ok t0 (by omega) v hv w
        have HAT := Lib.hid hat
        have hc1 : (1 : Int) ≤ n := by omega
        have htl : (bytesOf tr).length = n - 1 := by rw [bytesOf_length]; simp at hts; omega
        have HTL := Lib.hid htl
        obtain ⟨R, hR'⟩ : ∃ R, R = (bytesOf tr).reverse := ⟨_, rfl⟩
        rw [← hR']
        have HR := Lib.hid hR'
        have hRl : R.length = n - 1 := by rw [hR', List.length_reverse, HTL.out]
        have HRL := Lib.hid hRl
        clear hR' hRl
        obtain ⟨Y, hY⟩ : ∃ Y, Y = t0.data.toList :: bytesOf tr := ⟨_, rfl⟩
        have hall2 : Sl w w.heap.size 1 (some ⟨b, off, none⟩) n (Y.map sv) := by rw [hY]; exact hall
        rw [← hY]
        rw [show addrV (if prefixR (candA R) v = Y then some (candA R, v) else none) = addrIf R Y v from rfl]
        have HALL2 := Lib.hid hall2
        have HY := Lib.hid hY
        clear hall2 hY HALL
        clear hcs hL0 htail hall hbel0 hbase hat hnum hr hc h0 hsz hszr hsz0 hts hlb hA hL hshort hv htl
        go_enter Tryz.func81, Tryz.ntmps81
        go_wp2_with (go_at_call 112; refine (HAT.out _).mono ?_; rintro e w1 ⟨rfl, hb1⟩; refine Hid.out ?_)
        refine Lib.hid ?_
        have hbe := HB0.out.trans (hb1.mono HBASE.out)
        have HC1 := Lib.hid (HC.out.below hb1)
        have HL1 := Lib.hid (HL0.out.below hb1 (Nat.le_refl _))
        have HBE := Lib.hid hbe
        have ht1 := HT.out.below hbe
        clear hb1 hbe HC HL0 HB0 hcell HAT
        have hcl := fun w h => cloneS_any (some ⟨b, off + 1, none⟩) (n - 1) (c - 1) (bytesOf tr) w (B := w.heap.size) h (by omega) (by omega)
        have HCL := Lib.hid hcl
        have HT1 := Lib.hid (ht1.more (B' := w1.heap.size) HBE.out.size)
        clear ht1 hcl
        go_wp2_with (go_at_call 113; refine (HCL.out _ HT1.out).mono ?_; rintro e w2 ⟨v2, rfl, hob⟩; refine Hid.out ?_)
        refine Lib.hid ?_
        have hbel2 := HBE.out.trans (hob.bel.mono HBE.out.size)
        obtain ⟨A', c', rfl, q1, q2, (⟨_, h0, _⟩ | ⟨g, rfl, hg1, hg2⟩)⟩ := hob.slice3
        · omega
        have hrv := fun w h => reverseS_any g (n - 1) c' (bytesOf tr) (B := w1.heap.size) (W := w1) w h q1 (by unfold maxLen; omega)
        rw [← HR.out] at hrv
        have HRV := Lib.hid hrv
        have HOB := Lib.hid hob
        clear hob hrv hbel2 HCL HT1
        go_wp2_with (go_at_call 114; refine (HRV.out _ HOB.out).mono ?_; rintro e w3 ⟨rfl, hob, hz⟩; refine Hid.out ?_)
        refine Lib.hid ?_
        have hbel3 := HBE.out.trans (hob.bel.mono HBE.out.size)
        have HC3 := Lib.hid (HC1.out.below (hob.bel.mono (Nat.le_refl _)))
        have HL3 := Lib.hid (HL1.out.below hob.bel (Nat.le_refl _))
        have hsl := hob.sl
        have hRts : R.map sv = (tr.reverse).map Value.string := by rw [HR.out, strings_sv]; unfold bytesOf; simp [List.map_reverse]
        have hbR : bytesOf tr.reverse = R := by rw [HR.out]; unfold bytesOf; rw [List.map_reverse]
        have hwb := fun w h => wordB_any (some ⟨g, 0, none⟩) (n - 1) c' tr.reverse w (by rw [← hRts]; exact h) (by intro t ht; exact HSZR.out t (by simpa using ht)) (by omega)
        have hpb := fun w h => plain_any (some ⟨g, 0, none⟩) (n - 1) c' tr.reverse w (by rw [← hRts]; exact h) (by intro t ht; exact HSZR.out t (by simpa using ht)) (by omega)
        rw [hbR] at hwb hpb
        have hco := fun w h => containsS_any (some ⟨g, 0, none⟩) (n - 1) c' R zz w (B := w.heap.size) h (by unfold maxLen; omega)
        obtain ⟨C1, hC1⟩ : ∃ C1, C1 = baL (wordBytesR R) := ⟨_, rfl⟩
        obtain ⟨C2, hC2⟩ : ∃ C2, C2 = baL (plainBytesR R) := ⟨_, rfl⟩
        obtain ⟨C, hC⟩ : ∃ C, C = baL (candA R) := ⟨_, rfl⟩
        rw [show sv (wordBytesR R) = .string C1 by rw [hC1]; rfl] at hwb
        rw [show sv (plainBytesR R) = .string C2 by rw [hC2]; rfl] at hpb
        have hCC : C = if n - 1 = 4 ∧ zz ∉ R then C2 else C1 := by
          rw [hC, hC1, hC2]
          unfold candA
          rw [HRL.out]
          split <;> rfl
        have hCs : C.size ≤ 200 := by
          rw [hC]
          show (candA R).toArray.size ≤ 200
          rw [List.size_toArray]
          exact candA_len R (by rw [HRL.out]; omega)
        have hCd : C.data.toList = candA R := by rw [hC]; simp [baL]
        have HCD := Lib.hid hCd
        have HBEL3 := Lib.hid hbel3
        have HSL := Lib.hid hsl
        have HWB := Lib.hid hwb
        have HPB := Lib.hid hpb
        have HCO := Lib.hid hco
        have HCC := Lib.hid hCC
        clear hbel3 hsl hwb hpb hco hCC hC1 hC2 hC hCd hob hz hRts hbR HRV HOB
        go_wp2_with (go_at_call 115; refine (HWB.out _ HSL.out HL3.out).mono ?_; rintro e w4 ⟨rfl, hb4⟩; refine Hid.out ?_)
        refine Lib.hid ?_
        have hbel4 := HBEL3.out.trans (hb4.mono HBEL3.out.size)
        have HC4 := Lib.hid (HC3.out.below hb4)
        have HL4 := Lib.hid (HL3.out.below hb4 (Nat.le_refl _))
        have HSL4 := Lib.hid ((HSL.out.below hb4).more hb4.size)
        have HBEL4 := Lib.hid hbel4
        clear hb4 hbel4 HBEL3 HC3 HL3 HSL HC1 HL1 HBE HWB
        obtain ⟨T, hT⟩ : ∃ T : Bool, T = (decide (n - 1 = 4) && !decide (zz ∈ R)) := ⟨_, rfl⟩
        have HTT := Lib.hid hT
        have hcc2 : C = if T = true then C2 else C1 := by
          rw [HCC.out, hT]
          by_cases h4 : n - 1 = 4 <;> by_cases hzm : zz ∈ R <;> simp [h4, hzm]
        have HCC2 := Lib.hid hcc2
        clear hT hcc2 HCC
        go_upto_region 9 with fail
        go_cut [42] (fun v wc => v = .bool T ∧ wc = w4)
        case first =>
          by_cases h4 : n - 1 = 4
          · have e4 : (((n - 1 : Nat) : Int) == 4) = true := by rw [beq_iff_eq]; omega
            by_cases hzm : zz ∈ R
            · have ed : decide (zz ∈ R) = true := decide_eq_true hzm
              have ht : T = false := by rw [HTT.out, ed]; simp
              subst ht
              clear h4 hzm
              go_wp2_with (go_at_call 116; refine (HCO.out _ HSL4.out).mono ?_; rintro e w5 ⟨rfl, rfl⟩)
              go_meet
              exact ⟨rfl, rfl⟩
            · have ed : decide (zz ∈ R) = false := decide_eq_false hzm
              have ht : T = true := by rw [HTT.out, ed]; simp [h4]
              subst ht
              clear h4 hzm
              go_wp2_with (go_at_call 116; refine (HCO.out _ HSL4.out).mono ?_; rintro e w5 ⟨rfl, rfl⟩)
              go_meet
              exact ⟨rfl, rfl⟩
          · have e4 : (((n - 1 : Nat) : Int) == 4) = false := by rw [beq_eq_false_iff_ne]; omega
            have ht : T = false := by rw [HTT.out]; simp [h4]
            subst ht
            clear h4
            go_wp2_with fail
            go_meet
            exact ⟨rfl, rfl⟩
        case rest =>
        obtain ⟨rfl, hwc⟩ := hcut
        replace hwc := hwc.symm
        subst hwc
        clear HTT
        rename_i Kx hKx Ky hKy
        refine hKy _ _ ?_
        go_cut [7] (fun v wc => v = .string C ∧ Below w.heap.size w wc ∧ LaidT wc ∧ Cs wc w.heap.size [.string ⟨#[]⟩, .int .i64 0])
        case first =>
          cases T with
          | false =>
            have HC' := Lib.hid (HCC2.out.trans (if_neg (by decide)))
            go_wp2_with fail
            go_meet
            exact ⟨by rw [HC'.out], HBEL4.out, HL4.out, HC4.out⟩
          | true =>
            have HC' := Lib.hid (HCC2.out.trans (if_pos rfl))
            go_wp2_with (go_at_call 117; refine (HPB.out _ HSL4.out HL4.out).mono ?_; rintro e w5 ⟨rfl, hb5⟩; refine Hid.out ?_)
            refine Lib.hid ?_
            have HBE5 := Lib.hid (HBEL4.out.trans (hb5.mono HBEL4.out.size))
            have HC5 := Lib.hid (HC4.out.below hb5)
            have HL5 := Lib.hid (HL4.out.below hb5 (Nat.le_refl _))
            clear hb5
            go_wp2_with fail
            go_meet
            exact ⟨by rw [HC'.out], HBE5.out, HL5.out, HC5.out⟩
        case rest =>
          obtain ⟨rfl, hbw, hlw, hcw⟩ := hcut
          refine hKx _ _ ?_
          have hpx := fun w h => prefix_any C v w (by omega) h
          rw [HCD.out] at hpx
          obtain ⟨PX, hPX⟩ : ∃ PX, PX = prefixR (candA R) v := ⟨_, rfl⟩
          rw [← hPX] at hpx
          have hPXl : PX.length ≤ 9 := by
            rw [hPX]; exact prefixR_len _ _
          have HPXE := Lib.hid hPX
          have HPX := Lib.hid hpx
          have hbx := hbw.alloc hbw.size (.cells #[.string C, .int .i64 v] 44)
          have HLX := Lib.hid (hlw.alloc (.cells #[.string C, .int .i64 v] 44))
          have HCX := Lib.hid (hcw.alloc (.cells #[.string C, .int .i64 v] 44))
          have HCP := Lib.hid (Cs.new wc #[.string C, .int .i64 v] 44 [.string C, .int .i64 v])
          have HBX := Lib.hid hbx
          clear hpx hPX hbx hcw hlw hbw HCC2 HCO HPB HSL4 HBEL4 HC4 HL4
          go_wp2_with (go_at_call 101; refine (HPX.out _ HLX.out).mono ?_; rintro e w6 ⟨v6, rfl, hob6⟩; refine Hid.out ?_)
          refine Lib.hid ?_
          have hb6 := HBX.out.trans (hob6.bel.mono HBX.out.size)
          have hC6 := HCX.out.below hob6.bel
          have hP6 := HCP.out.below hob6.bel
          obtain ⟨A6, c6, rfl, p1, p2, p3⟩ := hob6.slice
          have hm1 : PX.length ≤ maxLen := by unfold maxLen; omega
          have hm2 : n ≤ maxLen := by unfold maxLen; omega
          have hsl6 := hob6.sl
          have heq := equalS_any A6 (some ⟨b, off, none⟩) PX.length c6 n c PX Y w6 hsl6 (HALL2.out.below hb6) hm1 hm2
          have HEQ := Lib.hid heq
          have k0 := hC6.get 0 (.string ⟨#[]⟩)
          have k1 := hC6.get 1 (.int .i64 0)
          have z0 := hC6.froz 0
          have z1 := hC6.froz 1
          have l0 := hP6.get 0 (.string C)
          have l1 := hP6.get 1 (.int .i64 v)
          have HC6 := Lib.hid hC6
          have HB6 := Lib.hid hb6
          clear heq hob6 hC6 hP6 hb6 hsl6 hm1 hm2 HBX HCX HCP HLX HPX
          by_cases hpy : PX = Y
          · have ed : decide (PX = Y) = true := decide_eq_true hpy
            have HPY := Lib.hid hpy
            clear hpy
            go_wp2_with (go_at_call 118; refine HEQ.out.mono ?_; rintro e w7 ⟨rfl, q, rfl⟩)
            refine bodyPost_ret (v := .tuple #[.agg #[.string C, .int .i64 v], .bool true]) ?_ rfl ⟨?_, ((HB6.out.trans ((drewN_below w6 q).mono HB6.out.size)).setCell (p := ⟨w.heap.size, 0, none⟩) (Nat.le_refl _) (.string C)).setCell (p := ⟨w.heap.size, 1, none⟩) (Nat.le_refl _) (.int .i64 v)⟩
            · have hfin := ((HC6.out.drewN q).set' 0 (.string C) (by decide)).set' 1 (.int .i64 v) (by simp)
              have g0 := hfin.get 0 (.string C)
              have g1 := hfin.get 1 (.int .i64 v)
              generalize ((w6.drewN q).setCell ⟨w.heap.size, 0, none⟩ (.string C)).setCell ⟨w.heap.size, 1, none⟩ (.int .i64 v) = W at g0 g1 ⊢
              simp [results, Tryz.results81, go_sem, g0, g1]
            · unfold addrIf
              rw [← HPXE.out, if_pos HPY.out]
              show _ = Ending.returned (.tuple #[.agg #[sv (candA R), .int .i64 v], .bool true])
              rw [← HCD.out, sv_bytes]
          · have ed : decide (PX = Y) = false := decide_eq_false hpy
            have HPY := Lib.hid hpy
            clear hpy
            go_wp2_with (go_at_call 118; refine HEQ.out.mono ?_; rintro e w7 ⟨rfl, q, rfl⟩)
            refine bodyPost_ret (v := .tuple #[noPrefix, .bool false]) ?_ rfl ⟨?_, ((HB6.out.trans ((drewN_below w6 q).mono HB6.out.size)).setCell (p := ⟨w.heap.size, 0, none⟩) (Nat.le_refl _) (.string ⟨#[]⟩)).setCell (p := ⟨w.heap.size, 1, none⟩) (Nat.le_refl _) (.int .i64 0)⟩
            · have hfin := ((HC6.out.drewN q).set' 0 (.string ⟨#[]⟩) (by decide)).set' 1 (.int .i64 0) (by simp)
              have g0 := hfin.get 0 (.string ⟨#[]⟩)
              have g1 := hfin.get 1 (.int .i64 0)
              generalize ((w6.drewN q).setCell ⟨w.heap.size, 0, none⟩ (.string ⟨#[]⟩)).setCell ⟨w.heap.size, 1, none⟩ (.int .i64 0) = W at g0 g1 ⊢
              simp [results, Tryz.results81, go_sem, noPrefix, g0, g1]
            · unfold addrIf
              rw [← HPXE.out, if_neg HPY.out]; rfl
end Go.Proofs.YtkdknfedieeenaaGreatDoor
