/- Texts that walks stand on, one behind the other. -/
import Derived.Test.YtpbbnpglcadimaaDoorMgSF
import Derived.Test.YtpbbnpglcadimaaDoorRecC
import Derived.Outline
import Derived.BigQuiet
import Derived.Test.YtpbbnpglcadimaaDoorRows
import Derived.Test.YtpbbnpglcadimaaDoorMgSE
import Derived.ChangeVars
import Derived.LaidLaws
import Derived.LaidHandle
import Derived.Stop.Joined
import Derived.Test.YtpbbnpglcadimaaDoorViewA
import Derived.Test.YtpbbnpglcadimaaDoorMgSC
namespace Go.Proofs.YtpbbnpglcadimaaDoor
open Go.RowKit
set_option linter.unusedVariables false
set_option linter.unusedSimpArgs false
set_option maxRecDepth 20000
attribute [local simp] putsF isV wordOf Deps Region.binds Region.wanted Act.put wantedX isB
theorem flatD_get (rs : List RecT) : ∀ (xs : List DT) (k : Nat) (x : DT), xs[k]? = some x → ∀ j u, (delX rs x)[j]? = some u → (flatD rs xs)[k * 10 + j]? = some u
  | [], k, x, h, _, _, _ => by simp at h
  | y :: xs, 0, x, h, j, u, hu => by
    simp at h; subst h
    have hj := (List.getElem?_eq_some_iff.1 hu).1
    unfold flatD
    rw [List.flatMap_cons, Nat.zero_mul, Nat.zero_add, List.getElem?_append_left hj]
    exact hu
  | y :: xs, k + 1, x, h, j, u, hu => by
    have := flatD_get rs xs k x (by simpa using h) j u hu
    unfold flatD at this ⊢
    rw [List.flatMap_cons, List.getElem?_append_right (by rw [show (delX rs y).length = 10 from rfl]; omega), show (delX rs y).length = 10 from rfl, show (k + 1) * 10 + j - 10 = k * 10 + j by omega]
    exact this
theorem app_follows9 : Tryd.prog.follows .mixedOrders = true := by kernel_rfl
theorem fr_next (fr : Nat) (h : fr < 4294967296) : (fr + 9) % 4294967296 ≠ fr % 4294967296 := by omega
set_option maxHeartbeats 12800000 in
theorem streamChain_walk (w : World) (hE : Etype w) (z : Int) (hz : (Lit.int .u8 z).wf = true) (f0 : Int) (hf : (Lit.int .u32 f0).wf = true) (A : Option Addr) (n c : Nat) (rows : List RowA) (hR : Rows9 w A n rows) (hle : n ≤ c) (hmx : c ≤ maxLen) :
    Calls Tryd.prog 3 #[.int .u8 z, .int .u32 f0, .slice A n c] w fun e w' => e = .returned (.bool true) ∧ Below w.heap.size w w' := by
  obtain ⟨sf, hsf⟩ := ser_fun
  have hz8 := u8_wf hz
  have hf32 := u32_wf hf
  obtain ⟨on, rfl⟩ : ∃ on : Nat, z = on := ⟨z.toNat, by omega⟩
  obtain ⟨fr, rfl⟩ : ∃ fr : Nat, f0 = fr := ⟨f0.toNat, by omega⟩
  have hfr : fr < 4294967296 := by omega
  have OG := Lib.hid (fun w => origin_any on (by omega) w)
  have hob := originB_le on
  have hol := labelsOf_origin on
  generalize originB on = o at *
  have hom : o.size ≤ maxLen := Nat.le_trans hob (by decide)
  have hnm : n ≤ 9223372036854775807 := Nat.le_trans hle (Nat.le_trans hmx (by decide))
  obtain ⟨N, hN⟩ : ∃ N, N = min (n / 2) 4 := ⟨_, rfl⟩
  have hN4 : N ≤ 4 := by omega
  have hN2 : 2 * N ≤ n := by omega
  obtain ⟨rs, hrs⟩ : ∃ rs, rs = chainR o fr rows N := ⟨_, rfl⟩
  have hrl : rs.length ≤ 50 := by rw [hrs]; exact chainR_len o fr rows N hN4
  obtain ⟨f9, hf9⟩ : ∃ f9, f9 = (fr + 9) % 4294967296 := ⟨_, rfl⟩
  have hs0 : serP fr 0 = fr := by unfold serP; omega
  have hf9n : f9 ≠ serP fr 0 := by rw [hs0, hf9]; omega
  have hsn : ∀ n, n < 4294967296 → sf (soaR o n) = n := fun n hn => hsf.of_soa o n hn
  have PC : Hid (0 < N → partR mayR sf o fr rs = .inr (some (some (tripsC o fr rows 0 N)))) := Lib.hid (fun h0 => by rw [hrs]; have := part_chain o fr rows sf hsn hol N h0; rwa [hs0] at this)
  have PL : Hid (0 < N → partR mayR sf o f9 rs = .inl 5) := Lib.hid (fun h0 => by rw [hrs]; exact part_late o fr rows sf hsn hol N f9 h0 hf9n)
  have PN : Hid (N = 0 → (∀ f, partR mayR sf o f rs = .inr (some none)) ∧ rs.length - 1 = 1) := Lib.hid (fun h0 => by subst h0; rw [hrs]; exact ⟨fun f => part_none o fr rows sf hol f, rfl⟩)
  have CH : Hid (∀ wx, Below w.heap.size w wx → Calls Tryd.prog 7 #[.string o, .int .u32 (fr : Nat), .slice A n c] wx fun e w' => ∃ VS CS, e = .returned (.slice VS rs.length CS) ∧ rs.length ≤ CS ∧ CS ≤ maxLen ∧ Recs w' VS rs ∧ Below wx.heap.size wx w') := Lib.hid (fun wx hb => (chain_any o fr A n c rows wx (hR.below hb) hfr hob hnm).mono (by
    rintro e w' ⟨v, rfl, ho⟩
    rw [← hN, ← hrs] at ho
    obtain ⟨A', c', rfl, g1, g2, g3⟩ := ho.slice
    exact ⟨A', c', rfl, g1, g2, ho.recs rfl, ho.bel⟩))
  have hfit : ∀ r ∈ rs, fit9 r := by rw [hrs]; exact fit9_chain o hob fr rows N
  have PT : Hid (∀ (wx : World) VS CS f, Recs wx VS rs → rs.length ≤ CS → CS ≤ maxLen → Calls Tryd.prog 8 #[.string o, .int .u32 (f : Nat), .slice VS rs.length CS] wx (PartA mayR sf o f rs wx)) := Lib.hid (fun wx VS CS f h h1 h2 =>
    part_any mayR sf o f VS rs.length CS rs wx h rfl (by omega) h1 h2 hom (fun r hr => Nat.le_trans (hfit r hr).2.1 (by decide)) (fun r hr w => mayrec_is r (hfit r hr).1 (hfit r hr).2.1 (hfit r hr).2.2 w) (fun r hr hs w => serial_any hsf r hs (Nat.le_trans (hfit r hr).2.2 (by decide)) w))
  have SO : Hid (∀ k w, Calls Tryd.prog 10 #[.string o, .int .u32 (serP fr k : Nat)] w fun e w' => e = .returned (.agg #[.string o, .int .u16 6, .int .u32 9, .string (soaD (serP fr k))]) ∧ Below w.heap.size w w') := Lib.hid (fun k w => soa9_any o (serP fr k) (serP_lt fr k) w)
  have hnd : (n : Int).tdiv 2 = ((n / 2 : Nat) : Int) := by rw [Int.tdiv_eq_ediv_of_nonneg (by omega)]; omega
  obtain ⟨HV, hHV⟩ : ∃ q, q = n / 2 := ⟨_, rfl⟩
  rw [← hHV] at hnd
  have hnd2 : (n : Int) / 2 = (HV : Int) := by omega
  have hmin1 : (if (4 : Int) < HV then (4 : Int) else (HV : Int)) = (N : Int) := by split <;> omega
  have hmin3 : min (HV : Int) 4 = (N : Int) := by omega
  have hw9 : IntKind.u32.wrap ((fr : Int) + 9) = (f9 : Int) := by show ((fr : Int) + 9) % 4294967296 = _; omega
  have HW := Lib.hid (fun k (hk : k < 16) => serP_wrap fr k hfr hk)
  have HRR := Lib.hid hR
  have HRS := Lib.hid hrs
  have HET := Lib.hid hE
  have HOM := Lib.hid hom
  have HNN := Lib.hid (And.intro hN4 hN2)
  have HNM := Lib.hid hnm
  clear hz hrs hR hz8 hob hf hf32 hN hN4 hN2 hle hmx hsf hsn hol hom hE hfit hs0 hf9 hf9n hHV hnm
  go_enter Tryd.func3, Tryd.ntmps3
  go_wp2_with fail
  refine (awake09_any _).mono ?_
  rintro e w1 ⟨rfl, hb1⟩
  have HB1 := Lib.hid hb1
  clear hb1
  go_wp2_with fail
  refine (OG.out _).mono ?_
  rintro e w2 ⟨rfl, hb2⟩
  have HB2 := Lib.hid (below_trans HB1.out HB1.out.size hb2)
  clear hb2 OG HB1
  have hnm := HNM.out
  go_wp2_with fail
  refine (CH.out _ HB2.out).mono ?_
  rintro e w4 ⟨VS, CS, rfl, hcs, hcs2, hrec, hb4⟩
  have HB4 := Lib.hid (below_trans HB2.out HB2.out.size hb4)
  have HREC := Lib.hid hrec
  have HCS := Lib.hid (And.intro hcs hcs2)
  have P1 := Lib.hid (PT.out w4 VS CS fr hrec hcs hcs2)
  clear hb4 hrec CH hcs hcs2 HB2 hnd hnd2 hmin1 hmin3
  rcases Nat.eq_zero_or_pos N with hN0 | hN0
  · obtain ⟨pn, hl1⟩ := PN.out hN0
    subst hN0
    have HPN := Lib.hid pn
    have HL1 := Lib.hid hl1
    clear pn hl1 PN PC PL
    go_wp2_with fail
    refine P1.out.mono ?_
    intro e w5 hp5
    have hq5 : ∃ A5 c5, e = .returned (.tuple #[.agg #[.bool false, .slice A5 1 c5, .slice none 0 0], .nilIface]) ∧ Below w4.heap.size w4 w5 := by
      rcases hp5 with ⟨er, hp, -⟩ | ⟨hp, -⟩ | ⟨hp, A5, c5, he, ho⟩ | ⟨xs, A5, c5, hp, -⟩
      · rw [HPN.out] at hp; cases hp
      · rw [HPN.out] at hp; cases hp
      · rw [HL1.out] at he; exact ⟨A5, c5, he, ho.bel⟩
      · rw [HPN.out] at hp; cases hp
    obtain ⟨A5, c5, rfl, hb5⟩ := hq5
    have HC5 := Lib.hid (Cs.new w5 #[.bool false, .slice A5 1 c5, .slice none 0 0] 31 [.bool false, .slice A5 1 c5, .slice none 0 0])
    have HB5 := Lib.hid (below_trans HB4.out HB4.out.size hb5)
    have hb5' := hb5.alloc hb5.size (.cells #[.bool false, .slice A5 1 c5, .slice none 0 0] 31)
    have P2 := Lib.hid (PT.out (w5.alloc (.cells #[.bool false, .slice A5 1 c5, .slice none 0 0] 31)) VS CS f9 (HREC.out.below hb5') HCS.out.1 HCS.out.2)
    have HB6 := Lib.hid (below_trans HB4.out HB4.out.size hb5')
    clear hp5 hb5 hb5' P1 HB5 HB4
    go_wp2_with fail
    generalize (w5.alloc (.cells #[.bool false, .slice A5 1 c5, .slice none 0 0] 31)) = w6 at *
    obtain ⟨b10, hb10⟩ : ∃ b, w5.heap.size = b := ⟨_, rfl⟩
    rw [hb10] at HC5 ⊢
    clear hb10
    refine P2.out.mono ?_
    intro e w7 hp7
    have hq7 : ∃ A7 c7, e = .returned (.tuple #[.agg #[.bool false, .slice A7 1 c7, .slice none 0 0], .nilIface]) ∧ Below w6.heap.size w6 w7 := by
      rcases hp7 with ⟨er, hp, -⟩ | ⟨hp, -⟩ | ⟨hp, A7, c7, he, ho⟩ | ⟨xs, A7, c7, hp, -⟩
      · rw [HPN.out] at hp; cases hp
      · rw [HPN.out] at hp; cases hp
      · rw [HL1.out] at he; exact ⟨A7, c7, he, ho.bel⟩
      · rw [HPN.out] at hp; cases hp
    obtain ⟨A7, c7, rfl, hb7⟩ := hq7
    have HB8 : Hid (Below w.heap.size w (w7.alloc (.cells #[.bool false, .slice A7 1 c7, .slice none 0 0] 31))) := Lib.hid ((below_trans HB6.out HB6.out.size hb7).alloc (below_trans HB6.out HB6.out.size hb7).size _)
    have HC8 := Lib.hid ((HC5.out.below hb7).alloc (.cells #[.bool false, .slice A7 1 c7, .slice none 0 0] 31))
    have k1 := HC8.out.get 1 _
    have kl := HC8.out.lt
    clear hp7 hb7 P2 HC5 HB6
    go_wp2_with fail
    go_ret
    exact ⟨rfl, HB8.out⟩
  · have pc := PC.out hN0
    have pl := PL.out hN0
    have HPC := Lib.hid pc
    have HPL := Lib.hid pl
    have hN0' : ¬ (N : Int) = 0 := by omega
    have hN0b : ((N : Int) == 0) = false := by simp; omega
    clear pc pl PN PC PL
    go_wp2_with fail
    refine P1.out.mono ?_
    intro e w5 hp5
    have hq5 : ∃ (xs : List DT) (A5 : Option Addr) (c5 : Nat), xs.map (·.1) = tripsC o fr rows 0 N ∧ e = .returned (.tuple #[.agg #[.bool false, .slice none 0 0, .slice A5 N c5], .nilIface]) ∧ OBM 10 w4.heap.size w4 (.slice A5 N c5) N (flatD rs xs) w5 ∧ ∀ x ∈ xs, DOk w4 rs x w5 := by
      rcases hp5 with ⟨er, hp, -⟩ | ⟨hp, -⟩ | ⟨hp, -⟩ | ⟨xs, A5, c5, hp, he, ho, hd⟩
      · rw [HPC.out] at hp; cases hp
      · rw [HPC.out] at hp; cases hp
      · rw [HPC.out] at hp; cases hp
      · rw [HPC.out] at hp
        injection hp with hp; injection hp with hp; injection hp with hp
        have hl : xs.length = N := by have := congrArg List.length hp; rw [tripsC_len, List.length_map] at this; exact this.symm
        rw [hl] at he ho
        exact ⟨xs, A5, c5, hp.symm, he, ho, hd⟩
    obtain ⟨xs, A5, c5, hxs, rfl, ho5, hd5⟩ := hq5
    have HXS := Lib.hid hxs
    have HO5 := Lib.hid ho5
    have HD5 := Lib.hid hd5
    have HC5 := Lib.hid (Cs.new w5 #[.bool false, .slice none 0 0, .slice A5 N c5] 31 [.bool false, .slice none 0 0, .slice A5 N c5])
    have hb5 := ho5.bel
    have hb5' := hb5.alloc hb5.size (.cells #[.bool false, .slice none 0 0, .slice A5 N c5] 31)
    have HB56 : Hid (Below w5.heap.size w5 (w5.alloc (.cells #[.bool false, .slice none 0 0, .slice A5 N c5] 31))) := Lib.hid ((Below.refl _ _).alloc (Nat.le_refl _) _)
    have P2 := Lib.hid (PT.out (w5.alloc (.cells #[.bool false, .slice none 0 0, .slice A5 N c5] 31)) VS CS f9 (HREC.out.below hb5') HCS.out.1 HCS.out.2)
    have HB6 := Lib.hid (below_trans HB4.out HB4.out.size hb5')
    clear hp5 hb5 hb5' P1 ho5 hd5 hxs
    go_wp2_with fail
    generalize (w5.alloc (.cells #[.bool false, .slice none 0 0, .slice A5 N c5] 31)) = w6 at *
    obtain ⟨b10, hb10⟩ : ∃ b, w5.heap.size = b := ⟨_, rfl⟩
    have HB10 := Lib.hid hb10
    rw [hb10] at HC5 ⊢
    clear hb10
    refine P2.out.mono ?_
    intro e w7 hp7
    have hq7 : e = .returned (.tuple #[.agg #[.bool false, .slice none 0 0, .slice none 0 0], .iface 36 (.int .i64 5)]) ∧ Below w6.heap.size w6 w7 := by
      rcases hp7 with ⟨er, hp, he, hb⟩ | ⟨hp, -⟩ | ⟨hp, -⟩ | ⟨xs, A7, c7, hp, -⟩
      · rw [HPL.out] at hp
        injection hp with hp
        subst hp
        exact ⟨he, hb⟩
      · rw [HPL.out] at hp; cases hp
      · rw [HPL.out] at hp; cases hp
      · rw [HPL.out] at hp; cases hp
    obtain ⟨rfl, hb7⟩ := hq7
    have HB7 : Hid (Below w5.heap.size w5 (w7.alloc (.cells #[.bool false, .slice none 0 0, .slice none 0 0] 31))) := Lib.hid ((below_trans HB56.out HB56.out.size hb7).alloc (below_trans HB56.out HB56.out.size hb7).size _)
    have HB8 : Hid (Below w.heap.size w (w7.alloc (.cells #[.bool false, .slice none 0 0, .slice none 0 0] 31))) := Lib.hid ((below_trans HB6.out HB6.out.size hb7).alloc (below_trans HB6.out HB6.out.size hb7).size _)
    have HC8 := Lib.hid ((HC5.out.below hb7).alloc (.cells #[.bool false, .slice none 0 0, .slice none 0 0] 31))
    have HO8 := Lib.hid (HO5.out.keep HB7.out (Nat.le_refl _))
    have HD8 : Hid (∀ x ∈ xs, DOk w4 rs x (w7.alloc (.cells #[.bool false, .slice none 0 0, .slice none 0 0] 31))) := Lib.hid (fun x hx => (HD5.out x hx).keep HB7.out (Nat.le_refl _))
    have k2 := HC8.out.get 2 _
    have kl := HC8.out.lt
    clear hp7 hb7 P2 HC5 HB6 HB56 HO5 HD5 HREC HCS PT HB10
    go_wp2_with fail
    generalize (w7.alloc (.cells #[.bool false, .slice none 0 0, .slice none 0 0] 31)) = w8 at *
    refine (number_errno 5 w8 (HET.out.keep (Nat.le_refl _) HB8.out)).mono ?_
    rintro e w9 ⟨rfl, hb9⟩
    have HB9 := Lib.hid (below_trans HB8.out HB8.out.size hb9)
    have HC9 := Lib.hid (HC8.out.below hb9)
    have HO9 := Lib.hid (HO8.out.keep hb9 (Nat.le_refl _))
    have HD9 : Hid (∀ x ∈ xs, DOk w4 rs x w9) := Lib.hid (fun x hx => (HD8.out x hx).keep hb9 (Nat.le_refl _))
    clear hb9 HB8 HC8 HO8 HD8 k2 kl HB7
    have k2 := HC9.out.get 2 _
    have kl := HC9.out.lt
    have hNN : ((N : Int) != (N : Int)) = false := by simp
    go_wp2_with fail
    clear k2 kl hNN
    go_loopw [74] (fun i wr => ∃ (k : Nat), k ≤ N ∧ i = .int .i64 k ∧ Hid (Below w9.heap.size w9 wr)) (fun i _ => N - (intOf i).toNat)
    case atStart => exact ⟨0, Nat.zero_le _, rfl, Lib.hid (Below.refl _ _)⟩
    case round =>
      obtain ⟨k, hk, rfl, HBR⟩ := hrel
      by_cases hkN : k < N
      · have hkN' : (k : Int) < N := by omega
        have hk0 : ¬ (k : Int) < 0 := by omega
        have hn4 := HNN.out.1
        have hn2 := HNN.out.2
        obtain ⟨hwk1, hwk2, hwk3⟩ := HW.out k (by omega)
        obtain ⟨K2, hK2⟩ : ∃ q, q = 2 * k := ⟨_, rfl⟩
        obtain ⟨K3, hK3⟩ : ∃ q, q = 2 * k + 1 := ⟨_, rfl⟩
        obtain ⟨⟨A1, n1, c1, d1⟩, hr1⟩ : ∃ r, rows[K2]? = some r := ⟨_, List.getElem?_eq_getElem (by rw [HRR.out.len]; omega)⟩
        obtain ⟨⟨A2, n2, c2, d2⟩, hr2⟩ : ∃ r, rows[K3]? = some r := ⟨_, List.getElem?_eq_getElem (by rw [HRR.out.len]; omega)⟩
        obtain ⟨bb, off, hAe0, hbb, hcl1⟩ := HRR.out.at_ K2 _ hr1
        obtain ⟨_, _, hAe, _, hcl2⟩ := HRR.out.at_ K3 _ hr2
        rw [hAe0] at hAe
        injection hAe with hAe; injection hAe with e1 e2; subst e1 e2
        subst hAe0
        have ac1 := HRR.out.acts K2 _ hr1
        have ac2 := HRR.out.acts K3 _ hr2
        have hbw : Below w.heap.size w wr := below_trans HB9.out HB9.out.size HBR.out
        obtain ⟨x, hx⟩ : ∃ x, xs[k]? = some x := by
          have hl : xs.length = N := by have := congrArg List.length HXS.out; rwa [tripsC_len, List.length_map] at this
          exact ⟨_, List.getElem?_eq_getElem (by omega)⟩
        have hx1 : x.1 = (posP o fr rows k, posT o fr rows k, posP o fr rows (k + 1)) := by
          have h1 := tripsC_get o fr rows N 0 k hkN
          rw [← HXS.out, List.getElem?_map, hx, Nat.zero_add] at h1
          exact Option.some.inj h1
        obtain ⟨x1, v1, v2⟩ := x
        simp only at hx1
        subst hx1
        have hdk := (HD9.out _ (List.mem_of_getElem? hx)).keep HBR.out (Nat.le_refl _)
        have hgone := hdk.gone
        have hnew := hdk.new
        simp only at hgone hnew
        have eg := gone_at o fr rows N k hkN
        have en := new_at o fr rows N k hkN
        rw [← HRS.out] at eg en
        rw [eg] at hgone
        rw [en] at hnew
        have lg : posT o fr rows k - (posP o fr rows k + 1) = (goneR o rows k).length := by unfold posT; omega
        have ln : posP o fr rows (k + 1) - (posT o fr rows k + 1) = (newR o rows k).length := by rw [posP_next]; omega
        rw [lg] at hgone
        rw [ln] at hnew
        have hga : goneR o rows k = undersOf o false d1 5 := by unfold goneR rowAt; rw [← hK2, hr1]; rfl
        have hna : newR o rows k = undersOf o false d2 5 := by unfold newR rowAt; rw [← hK3, hr2]; rfl
        obtain ⟨G, hG⟩ : ∃ G, goneR o rows k = G := ⟨_, rfl⟩
        obtain ⟨M, hM⟩ : ∃ M, newR o rows k = M := ⟨_, rfl⟩
        rw [hG] at hgone hga
        rw [hM] at hnew hna
        have HGL : Hid (G.length ≤ maxLen) := Lib.hid (by rw [hga, undersOf_len]; unfold maxLen; omega)
        have HML : Hid (M.length ≤ maxLen) := Lib.hid (by rw [hna, undersOf_len]; unfold maxLen; omega)
        have UN1 : Hid (∀ wx, Below wr.heap.size wr wx → Calls Tryd.prog 12 #[.string o, .slice A1 n1 c1, .int .i64 5, .bool false] wx fun e w' => ∃ v, e = .returned v ∧ OBM 4 wx.heap.size wx v G.length (flatR G) w') := Lib.hid (fun wx hb => by
          rw [hga]; exact under_any o A1 n1 c1 5 false d1 wx (ac1.1.below (below_trans hbw hbw.size hb)) ac1.2 (by omega) HOM.out)
        have UN2 : Hid (∀ wx, Below wr.heap.size wr wx → Calls Tryd.prog 12 #[.string o, .slice A2 n2 c2, .int .i64 5, .bool false] wx fun e w' => ∃ v, e = .returned v ∧ OBM 4 wx.heap.size wx v M.length (flatR M) w') := Lib.hid (fun wx hb => by
          rw [hna]; exact under_any o A2 n2 c2 5 false d2 wx (ac2.1.below (below_trans hbw hbw.size hb)) ac2.2 (by omega) HOM.out)
        have hKC1 : Hid (∀ wx, Below wr.heap.size wr wx → wx.cell? ⟨bb, off + K2, none⟩ = some (.slice A1 n1 c1)) := Lib.hid (fun wx hb => ((below_trans hbw hbw.size hb).cell (p := ⟨bb, off + K2, none⟩) hbb).trans hcl1)
        have hKC2 : Hid (∀ wx, Below wr.heap.size wr wx → wx.cell? ⟨bb, off + K3, none⟩ = some (.slice A2 n2 c2)) := Lib.hid (fun wx hb => ((below_trans hbw hbw.size hb).cell (p := ⟨bb, off + K3, none⟩) hbb).trans hcl2)
        obtain ⟨Ag, cg, rfl, g1, g2, g3⟩ := hgone.slice
        obtain ⟨An, cn, rfl, g4, g5, g6⟩ := hnew.slice
        have SM1 : Hid (∀ wx v, Below wr.heap.size wr wx → OBM 4 wr.heap.size wr v G.length (flatR G) wx → Calls Tryd.prog 11 #[.slice Ag G.length cg, v] wx fun e w' => e = .returned (.bool true) ∧ Below wx.heap.size wx w') := Lib.hid (fun wx v hb hv => by
          obtain ⟨A', c', rfl, -⟩ := hv.slice
          have := same_recs Ag A' cg c' G G wx ((hgone.recs rfl).below hb) (hv.recs rfl) HGL.out HGL.out
          simpa only [decide_true] using this)
        have SM2 : Hid (∀ wx v, Below wr.heap.size wr wx → OBM 4 wr.heap.size wr v M.length (flatR M) wx → Calls Tryd.prog 11 #[.slice An M.length cn, v] wx fun e w' => e = .returned (.bool true) ∧ Below wx.heap.size wx w') := Lib.hid (fun wx v hb hv => by
          obtain ⟨A', c', rfl, -⟩ := hv.slice
          have := same_recs An A' cn c' M M wx ((hnew.recs rfl).below hb) (hv.recs rfl) HML.out HML.out
          simpa only [decide_true] using this)
        -- the delta's cells
        have HOR := Lib.hid (HO9.out.keep HBR.out (Nat.le_refl _))
        obtain ⟨D0, hD0⟩ : ∃ D, soaD (serP fr k) = D := ⟨_, rfl⟩
        obtain ⟨D1, hD1⟩ : ∃ D, soaD (serP fr (k + 1)) = D := ⟨_, rfl⟩
        have hdx : delX rs ((posP o fr rows k, posT o fr rows k, posP o fr rows (k + 1)), .slice Ag G.length cg, .slice An M.length cn) = [.string o, .int .u16 6, .int .u32 9, .string D0, .string o, .int .u16 6, .int .u32 9, .string D1, .slice Ag G.length cg, .slice An M.length cn] := by
          unfold delX
          simp only
          rw [HRS.out, at_P o fr rows N k (by omega), at_T o fr rows N k hkN]
          unfold delC soaR
          simp only
          rw [hD0, hD1]
        have hcell := flatD_get rs xs k _ hx
        rw [hdx] at hcell
        have S0 := SO.out k
        have S1 := SO.out (k + 1)
        rw [hD0] at S0
        rw [hD1] at S1
        have HS0 := Lib.hid S0
        have HS1 := Lib.hid S1
        obtain ⟨s0, hs0⟩ : ∃ q, serP fr k = q := ⟨_, rfl⟩
        obtain ⟨s1, hs1⟩ : ∃ q, serP fr (k + 1) = q := ⟨_, rfl⟩
        rw [hs0] at HS0 hwk2 hwk3
        rw [hs1] at HS1 hwk3
        obtain ⟨g5b, hA5⟩ : ∃ g, A5 = some ⟨g, 0, none⟩ := by
          rcases HOR.out.own with ⟨hv, h0⟩ | ⟨g, cap, hv, _⟩
          · omega
          · injection hv with hv; exact ⟨g, hv⟩
        subst hA5
        have q0 := HOR.out.cell (k * 10 + 0) _ (hcell 0 _ rfl)
        have q1 := HOR.out.cell (k * 10 + 1) _ (hcell 1 _ rfl)
        have q2 := HOR.out.cell (k * 10 + 2) _ (hcell 2 _ rfl)
        have q3 := HOR.out.cell (k * 10 + 3) _ (hcell 3 _ rfl)
        have q4 := HOR.out.cell (k * 10 + 4) _ (hcell 4 _ rfl)
        have q5 := HOR.out.cell (k * 10 + 5) _ (hcell 5 _ rfl)
        have q6 := HOR.out.cell (k * 10 + 6) _ (hcell 6 _ rfl)
        have q7 := HOR.out.cell (k * 10 + 7) _ (hcell 7 _ rfl)
        have q8 := HOR.out.cell (k * 10 + 8) _ (hcell 8 _ rfl)
        have q9 := HOR.out.cell (k * 10 + 9) _ (hcell 9 _ rfl)
        rw [Nat.add_zero] at q0
        have ql := World.block_lt_of_cell? _ _ q0
        obtain ⟨i1, i2, i3, i4, i5, i6, i7, i8⟩ := idx_facts k K2 K3 N n hK2 hK3 hkN hn4 hn2
        have HBW := Lib.hid hbw
        have HBX := Lib.hid (Cs.new wr #[.string o, .int .u16 6, .int .u32 9, .string D0, .string o, .int .u16 6, .int .u32 9, .string D1, .slice Ag G.length cg, .slice An M.length cn] 43 [.string o, .int .u16 6, .int .u32 9, .string D0, .string o, .int .u16 6, .int .u32 9, .string D1, .slice Ag G.length cg, .slice An M.length cn])
        have HB0 : Hid (Below wr.heap.size wr (wr.alloc (.cells #[.string o, .int .u16 6, .int .u32 9, .string D0, .string o, .int .u16 6, .int .u32 9, .string D1, .slice Ag G.length cg, .slice An M.length cn] 43))) := Lib.hid ((Below.refl _ _).alloc (Nat.le_refl _) _)
        have hkm := hkN
        clear hcl1 hcl2 ac1 ac2 hx hdk hgone hnew eg en lg ln hga hna hG hM g1 g2 g3 g4 g5 g6 hdx hcell S0 S1 hs0 hs1 hD0 hD1 hbw hbb hr1 hr2 hK2 hK3
        go_upto_region 15 with fail
        generalize hwa : (wr.alloc (.cells #[.string o, .int .u16 6, .int .u32 9, .string D0, .string o, .int .u16 6, .int .u32 9, .string D1, .slice Ag G.length cg, .slice An M.length cn] 43)) = wa at *
        obtain ⟨bx, hbx⟩ : ∃ b, wr.heap.size = b := ⟨_, rfl⟩
        rw [hbx] at HBX ⊢
        clear hwa q0 q1 q2 q3 q4 q5 q6 q7 q8 q9 ql
        obtain ⟨RV0, hRV0⟩ : ∃ v : Value, v = .agg #[.string o, .int .u16 6, .int .u32 9, .string D0] := ⟨_, rfl⟩
        obtain ⟨RV1, hRV1⟩ : ∃ v : Value, v = .agg #[.string o, .int .u16 6, .int .u32 9, .string D1] := ⟨_, rfl⟩
        have HV0 := Lib.hid hRV0
        have HV1 := Lib.hid hRV1
        have RN0 : Hid (∀ w, (binOp .neq 41 RV0 RV0).run Tryd.prog w = .ok (.bool false) w) := Lib.hid (fun w => by rw [hRV0]; have := rec_neq (o, 6, 9, D0) (o, 6, 9, D0) w; simpa [recV] using this)
        have RN1 : Hid (∀ w, (binOp .neq 41 RV1 RV1).run Tryd.prog w = .ok (.bool false) w) := Lib.hid (fun w => by rw [hRV1]; have := rec_neq (o, 6, 9, D1) (o, 6, 9, D1) w; simpa [recV] using this)
        rw [← hRV0] at HS0
        rw [← hRV1] at HS1
        clear hRV0 hRV1
        have hUP : Hid (∀ wx, Below wa.heap.size wa wx → Below wr.heap.size wr wx) := Lib.hid (fun wx hb => below_trans HB0.out HB0.out.size hb)
        refine wp_region_goesG app_follows9 (fun x => by simp [putsF, Act.put]; rfl) wa.heap.size wa
          [isV (.pointer (some ⟨bx, 0, none⟩)), isV RV0, isV (.string o), isV (.int .u32 (fr : Nat)), isV (.int .i64 (k : Nat)), isV (.int .u32 (k : Nat)), isV (.int .u32 (s0 : Nat)), isV RV0, isV (.bool false), isV (.bool false), isV (.pointer (some ⟨bx, 4, none⟩)), isV RV1, isV (.string o), isV (.int .u32 (fr : Nat)), isV (.int .i64 (k : Nat)), isV (.int .u32 (k : Nat)), isV (.int .u32 (s0 : Nat)), isV (.int .u32 (s1 : Nat)), isV RV1, isV (.bool false), isV (.bool false), isV (.bool false), isV (.pointer (some ⟨bx, 8, none⟩)), isV (.slice Ag G.length cg), isV (.string o), isV (.slice (some ⟨bb, off, none⟩) n c), isV (.int .i64 (k : Nat)), isV (.int .i64 (K2 : Nat)), isV (.pointer (some ⟨bb, off + K2, none⟩)), isV (.slice A1 n1 c1), ownW 4 wa.heap.size wa G.length (flatR G), isV (.bool true), isV (.bool false), isV (.bool false), isV (.bool false), isV (.pointer (some ⟨bx, 9, none⟩)), isV (.slice An M.length cn), isV (.string o), isV (.slice (some ⟨bb, off, none⟩) n c), isV (.int .i64 (k : Nat)), isV (.int .i64 (K2 : Nat)), isV (.int .i64 (K3 : Nat)), isV (.pointer (some ⟨bb, off + K3, none⟩)), isV (.slice A2 n2 c2), ownW 4 wa.heap.size wa M.length (flatR M), isV (.bool true), isV (.bool false), isV (.bool false)]
          (by kernel_rfl) (by kernel_rfl) (by kernel_rfl) rfl ?_ (Below.refl _ _) ?_ ?_
        · repeat (first | exact trivial | refine ⟨by first | exact isV_stays _ | exact ownW_stays _ _ _ _ _, ?_⟩)
        · refine ⟨?_, ?_, ?_, ?_, ?_, ?_, ?_, ?_, ?_, ?_, ?_, ?_, ?_, ?_, ?_, ?_, ?_, ?_, ?_, ?_, ?_, ?_, ?_, ?_, ?_, ?_, ?_, ?_, ?_, ?_, ?_, ?_, ?_, ?_, ?_, ?_, ?_, ?_, ?_, ?_, ?_, ?_, ?_, ?_, ?_, ?_, ?_, ?_, trivial⟩
          · -- 0
            intro x wx hR hd
            simp at hd
            refine ⟨fun _ => ?_, fun hX => ?_⟩
            rotate_left
            · simp at hX
            try simp [hd]
            go_simp
            exact next_same _ rfl rfl hR
          · -- 1
            intro x wx hR hd
            simp at hd
            refine ⟨fun _ => ?_, fun hX => ?_⟩
            rotate_left
            · simp at hX
            have hc := HBX.out.below hR
            have u0 := hc.get 0 _
            have u1 := hc.get 1 _
            have u2 := hc.get 2 _
            have u3 := hc.get 3 _
            clear hc
            try simp [hd]
            go_simp
            exact next_same _ rfl HV0.out.symm hR
          · -- 2
            intro x wx hR hd
            simp at hd
            refine ⟨fun _ => ?_, fun hX => ?_⟩
            rotate_left
            · simp at hX
            try simp [hd]
            go_simp
            exact next_same _ rfl rfl hR
          · -- 3
            intro x wx hR hd
            simp at hd
            refine ⟨fun _ => ?_, fun hX => ?_⟩
            rotate_left
            · simp at hX
            try simp [hd]
            go_simp
            exact next_same _ rfl rfl hR
          · -- 4
            intro x wx hR hd
            simp at hd
            refine ⟨fun _ => ?_, fun hX => ?_⟩
            rotate_left
            · simp at hX
            try simp [hd]
            go_simp
            exact next_same _ rfl rfl hR
          · -- 5
            intro x wx hR hd
            simp at hd
            refine ⟨fun _ => ?_, fun hX => ?_⟩
            rotate_left
            · simp at hX
            try simp [hd]
            go_simp
            exact next_same _ rfl rfl hR
          · -- 6
            intro x wx hR hd
            simp at hd
            refine ⟨fun _ => ?_, fun hX => ?_⟩
            rotate_left
            · simp at hX
            try simp [hd]
            go_simp
            exact next_same _ rfl rfl hR
          · -- 7
            intro x wx hR hd
            simp at hd
            refine ⟨fun _ => ?_, fun hX => ?_⟩
            rotate_left
            · simp at hX
            try simp [hd]
            go_simp
            go_at_call 10
            refine (HS0.out wx).mono ?_
            rintro e w2 ⟨rfl, hb⟩
            exact next_call _ rfl rfl hR hR.size hb
          · -- 8
            intro x wx hR hd
            simp at hd
            refine ⟨fun _ => ?_, fun hX => ?_⟩
            rotate_left
            · simp at hX
            have e1 : x 1 = RV0 := by first | exact hd.1 | simp [hd]
            have e7 : x 7 = RV0 := by first | exact hd.2 | exact hd.2.1 | simp [hd]
            exact wp_binop _ _ _ _ _ rfl e1 e7 (by rw [HV0.out]; first | kernel_rfl | rfl) (RN0.out wx) (next_same _ rfl rfl hR)
          · -- 9
            intro x wx hR hd
            simp at hd
            refine ⟨fun _ => ?_, fun hX => ?_⟩
            rotate_left
            · simp at hX
            try simp [hd]
            go_simp
            exact next_same _ rfl rfl hR
          · -- 10
            intro x wx hR hd
            simp at hd
            refine ⟨fun _ => ?_, fun hX => ?_⟩
            rotate_left
            · simp [hd] at hX
            try simp [hd]
            go_simp
            exact next_same _ rfl rfl hR
          · -- 11
            intro x wx hR hd
            simp at hd
            refine ⟨fun _ => ?_, fun hX => ?_⟩
            rotate_left
            · simp [hd] at hX
            have hc := HBX.out.below hR
            have u4 := hc.get 4 _
            have u5 := hc.get 5 _
            have u6 := hc.get 6 _
            have u7 := hc.get 7 _
            clear hc
            try simp [hd]
            go_simp
            exact next_same _ rfl HV1.out.symm hR
          · -- 12
            intro x wx hR hd
            simp at hd
            refine ⟨fun _ => ?_, fun hX => ?_⟩
            rotate_left
            · simp [hd] at hX
            try simp [hd]
            go_simp
            exact next_same _ rfl rfl hR
          · -- 13
            intro x wx hR hd
            simp at hd
            refine ⟨fun _ => ?_, fun hX => ?_⟩
            rotate_left
            · simp [hd] at hX
            try simp [hd]
            go_simp
            exact next_same _ rfl rfl hR
          · -- 14
            intro x wx hR hd
            simp at hd
            refine ⟨fun _ => ?_, fun hX => ?_⟩
            rotate_left
            · simp [hd] at hX
            try simp [hd]
            go_simp
            exact next_same _ rfl rfl hR
          · -- 15
            intro x wx hR hd
            simp at hd
            refine ⟨fun _ => ?_, fun hX => ?_⟩
            rotate_left
            · simp [hd] at hX
            try simp [hd]
            go_simp
            exact next_same _ rfl rfl hR
          · -- 16
            intro x wx hR hd
            simp at hd
            refine ⟨fun _ => ?_, fun hX => ?_⟩
            rotate_left
            · simp [hd] at hX
            try simp [hd]
            go_simp
            exact next_same _ rfl rfl hR
          · -- 17
            intro x wx hR hd
            simp at hd
            refine ⟨fun _ => ?_, fun hX => ?_⟩
            rotate_left
            · simp [hd] at hX
            try simp [hd]
            go_simp
            exact next_same _ rfl rfl hR
          · -- 18
            intro x wx hR hd
            simp at hd
            refine ⟨fun _ => ?_, fun hX => ?_⟩
            rotate_left
            · simp [hd] at hX
            try simp [hd]
            go_simp
            go_at_call 10
            refine (HS1.out wx).mono ?_
            rintro e w2 ⟨rfl, hb⟩
            exact next_call _ rfl rfl hR hR.size hb
          · -- 19
            intro x wx hR hd
            simp at hd
            refine ⟨fun _ => ?_, fun hX => ?_⟩
            rotate_left
            · simp [hd] at hX
            have e1 : x 11 = RV1 := by first | exact hd.1 | exact hd.2.1 | simp [hd]
            have e7 : x 18 = RV1 := by first | exact hd.2 | exact hd.2.1 | exact hd.2.2 | simp [hd]
            exact wp_binop _ _ _ _ _ rfl e1 e7 (by rw [HV1.out]; first | kernel_rfl | rfl) (RN1.out wx) (next_same _ rfl rfl hR)
          · -- 20
            intro x wx hR hd
            simp at hd
            refine ⟨fun _ => ?_, fun hX => ?_⟩
            rotate_left
            · simp at hX
            try simp [hd]
            go_simp
            exact next_same _ rfl rfl hR
          · -- 21
            intro x wx hR hd
            simp at hd
            refine ⟨fun _ => ?_, fun hX => ?_⟩
            rotate_left
            · simp at hX
            try simp [hd]
            go_simp
            exact next_same _ rfl rfl hR
          · -- 22
            intro x wx hR hd
            simp at hd
            refine ⟨fun _ => ?_, fun hX => ?_⟩
            rotate_left
            · simp [hd] at hX
            try simp [hd]
            go_simp
            exact next_same _ rfl rfl hR
          · -- 23
            intro x wx hR hd
            simp at hd
            refine ⟨fun _ => ?_, fun hX => ?_⟩
            rotate_left
            · simp [hd] at hX
            have hc := HBX.out.below hR
            have u8 := hc.get 8 _
            clear hc
            try simp [hd]
            go_simp
            exact next_same _ rfl rfl hR
          · -- 24
            intro x wx hR hd
            simp at hd
            refine ⟨fun _ => ?_, fun hX => ?_⟩
            rotate_left
            · simp [hd] at hX
            try simp [hd]
            go_simp
            exact next_same _ rfl rfl hR
          · -- 25
            intro x wx hR hd
            simp at hd
            refine ⟨fun _ => ?_, fun hX => ?_⟩
            rotate_left
            · simp [hd] at hX
            try simp [hd]
            go_simp
            exact next_same _ rfl rfl hR
          · -- 26
            intro x wx hR hd
            simp at hd
            refine ⟨fun _ => ?_, fun hX => ?_⟩
            rotate_left
            · simp [hd] at hX
            try simp [hd]
            go_simp
            exact next_same _ rfl rfl hR
          · -- 27
            intro x wx hR hd
            simp at hd
            refine ⟨fun _ => ?_, fun hX => ?_⟩
            rotate_left
            · simp [hd] at hX
            try simp [hd]
            go_simp
            exact next_same _ rfl rfl hR
          · -- 28
            intro x wx hR hd
            simp at hd
            refine ⟨fun _ => ?_, fun hX => ?_⟩
            rotate_left
            · simp [hd] at hX
            try simp [hd]
            go_simp
            exact next_same _ rfl rfl hR
          · -- 29
            intro x wx hR hd
            simp at hd
            refine ⟨fun _ => ?_, fun hX => ?_⟩
            rotate_left
            · simp [hd] at hX
            have uk2 := hKC1.out wx (hUP.out wx hR)
            try simp [hd]
            go_simp
            exact next_same _ rfl rfl hR
          · -- 30
            intro x wx hR hd
            simp at hd
            refine ⟨fun _ => ?_, fun hX => ?_⟩
            rotate_left
            · simp [hd] at hX
            try simp [hd]
            go_simp
            go_at_call 12
            refine (UN1.out wx (hUP.out wx hR)).mono ?_
            rintro e w2 ⟨v, rfl, ho⟩
            exact next_call v rfl (ho.out hR.size hR) hR hR.size ho.bel
          · -- 31
            intro x wx hR hd
            simp at hd
            refine ⟨fun _ => ?_, fun hX => ?_⟩
            rotate_left
            · simp [hd] at hX
            have ho : ownW 4 wa.heap.size wa G.length (flatR G) (x 30) wx := by simp [hd]
            try simp [hd]
            go_simp
            go_at_call 11
            refine (SM1.out wx (x 30) (hUP.out wx hR) (OBM.out ho HB0.out.size HB0.out)).mono ?_
            rintro e w2 ⟨rfl, hb⟩
            exact next_call _ rfl rfl hR hR.size hb
          · -- 32
            intro x wx hR hd
            simp at hd
            refine ⟨fun _ => ?_, fun hX => ?_⟩
            rotate_left
            · simp [hd] at hX
            try simp [hd]
            go_simp
            exact next_same _ rfl rfl hR
          · -- 33
            intro x wx hR hd
            simp at hd
            refine ⟨fun _ => ?_, fun hX => ?_⟩
            rotate_left
            · simp at hX
            try simp [hd]
            go_simp
            exact next_same _ rfl rfl hR
          · -- 34
            intro x wx hR hd
            simp at hd
            refine ⟨fun _ => ?_, fun hX => ?_⟩
            rotate_left
            · simp at hX
            try simp [hd]
            go_simp
            exact next_same _ rfl rfl hR
          · -- 35
            intro x wx hR hd
            simp at hd
            refine ⟨fun _ => ?_, fun hX => ?_⟩
            rotate_left
            · simp [hd] at hX
            try simp [hd]
            go_simp
            exact next_same _ rfl rfl hR
          · -- 36
            intro x wx hR hd
            simp at hd
            refine ⟨fun _ => ?_, fun hX => ?_⟩
            rotate_left
            · simp [hd] at hX
            have hc := HBX.out.below hR
            have u9 := hc.get 9 _
            clear hc
            try simp [hd]
            go_simp
            exact next_same _ rfl rfl hR
          · -- 37
            intro x wx hR hd
            simp at hd
            refine ⟨fun _ => ?_, fun hX => ?_⟩
            rotate_left
            · simp [hd] at hX
            try simp [hd]
            go_simp
            exact next_same _ rfl rfl hR
          · -- 38
            intro x wx hR hd
            simp at hd
            refine ⟨fun _ => ?_, fun hX => ?_⟩
            rotate_left
            · simp [hd] at hX
            try simp [hd]
            go_simp
            exact next_same _ rfl rfl hR
          · -- 39
            intro x wx hR hd
            simp at hd
            refine ⟨fun _ => ?_, fun hX => ?_⟩
            rotate_left
            · simp [hd] at hX
            try simp [hd]
            go_simp
            exact next_same _ rfl rfl hR
          · -- 40
            intro x wx hR hd
            simp at hd
            refine ⟨fun _ => ?_, fun hX => ?_⟩
            rotate_left
            · simp [hd] at hX
            try simp [hd]
            go_simp
            exact next_same _ rfl rfl hR
          · -- 41
            intro x wx hR hd
            simp at hd
            refine ⟨fun _ => ?_, fun hX => ?_⟩
            rotate_left
            · simp [hd] at hX
            try simp [hd]
            go_simp
            exact next_same _ rfl rfl hR
          · -- 42
            intro x wx hR hd
            simp at hd
            refine ⟨fun _ => ?_, fun hX => ?_⟩
            rotate_left
            · simp [hd] at hX
            try simp [hd]
            go_simp
            exact next_same _ rfl rfl hR
          · -- 43
            intro x wx hR hd
            simp at hd
            refine ⟨fun _ => ?_, fun hX => ?_⟩
            rotate_left
            · simp [hd] at hX
            have uk3 := hKC2.out wx (hUP.out wx hR)
            try simp [hd]
            go_simp
            exact next_same _ rfl rfl hR
          · -- 44
            intro x wx hR hd
            simp at hd
            refine ⟨fun _ => ?_, fun hX => ?_⟩
            rotate_left
            · simp [hd] at hX
            try simp [hd]
            go_simp
            go_at_call 12
            refine (UN2.out wx (hUP.out wx hR)).mono ?_
            rintro e w2 ⟨v, rfl, ho⟩
            exact next_call v rfl (ho.out hR.size hR) hR hR.size ho.bel
          · -- 45
            intro x wx hR hd
            simp at hd
            refine ⟨fun _ => ?_, fun hX => ?_⟩
            rotate_left
            · simp [hd] at hX
            have ho : ownW 4 wa.heap.size wa M.length (flatR M) (x 44) wx := by simp [hd]
            try simp [hd]
            go_simp
            go_at_call 11
            refine (SM2.out wx (x 44) (hUP.out wx hR) (OBM.out ho HB0.out.size HB0.out)).mono ?_
            rintro e w2 ⟨rfl, hb⟩
            exact next_call _ rfl rfl hR hR.size hb
          · -- 46
            intro x wx hR hd
            simp at hd
            refine ⟨fun _ => ?_, fun hX => ?_⟩
            rotate_left
            · simp [hd] at hX
            try simp [hd]
            go_simp
            exact next_same _ rfl rfl hR
          · -- 47
            intro x wx hR hd
            simp at hd
            refine ⟨fun _ => ?_, fun hX => ?_⟩
            rotate_left
            · simp at hX
            try simp [hd]
            go_simp
            exact next_same _ rfl rfl hR
        intro x wx hR hx
        simp [AllWords] at hx
        have hlast : x 47 = .bool false := by simp [hx]
        have HBX2 := Lib.hid (hUP.out wx hR)
        rw [hlast]
        clear hx hlast hR HBX
        go_wp2_with fail
        go_roundw
        case rel => exact ⟨k + 1, by omega, by go_num, Lib.hid (below_trans HBR.out HBR.out.size HBX2.out)⟩
        case measure => simp [intOf]; omega
      · obtain rfl : k = N := by omega
        have hkN' : ¬ (k : Int) < k := by omega
        have HEND := Lib.hid (below_trans HB9.out HB9.out.size HBR.out)
        clear HBR hkN
        go_wp2_with fail
        go_ret
        exact ⟨rfl, HEND.out⟩
end Go.Proofs.YtpbbnpglcadimaaDoor
namespace Go.Proofs.YtpbbnpglcadimaaDoor
open Go.ChangeShapes Go.WideShapes Go.RowKit
theorem laid_et : Tryd.prog.globalNamed "errors.errorType" = some 0 := by kernel_rfl
theorem laid_rt : (Tryd.prog.cutTypes.find? (·.1 == "internal/reflectlite.rtype")).map (·.2) = some 130 := by kernel_rfl
theorem laid_row : ((List.range 196).filter fun t => Tryd.prog.rowNamed t [101, 114, 114, 111, 114]) = [33] := by kernel_rfl
theorem laid_size : Tryd.prog.types.size = 196 := by kernel_rfl
/-- The rows' list. -/
abbrev laidE : List (String × DataW Unit) := [("errors.errorType", Rows.laid_errors_errorType)]
theorem etype_of_laid {W : World} (h : laidMetH Tryd.prog laidE W) : Etype W := by
  have h' : laidMet Tryd.prog [] W ∧ handlesMet Tryd.prog laidE W := h
  obtain ⟨name, u, ty, e1, e2, e3, e4, e5⟩ := h'.2 _ (List.mem_singleton.2 rfl)
  have en : name = [101, 114, 114, 111, 114] := (Option.some.inj e1).symm
  subst en
  obtain rfl := Option.some.inj (laid_rt.symm.trans e2)
  have hm : ty ∈ (List.range 196).filter fun t => Tryd.prog.rowNamed t [101, 114, 114, 111, 114] := List.mem_filter.2 ⟨List.mem_range.2 (by rw [← laid_size]; exact e3), e4⟩
  rw [laid_row] at hm
  obtain rfl := List.mem_singleton.1 hm
  have hh : typeHandle Tryd.prog 33 = .pointer (some ⟨1, 33, none⟩) := by kernel_rfl
  rw [hh] at e5
  have e6 := World.var?_cell laid_et e5 0
  unfold Etype
  simpa using e6
/-- The settled world, the variable's cell laid. -/
noncomputable def laidWorld (os : Os) : World :=
  let w0 := World.holding Tryd.prog os ⟨#[], #[], []⟩
  { w0 with heap := w0.heap.modify 0 fun
      | .cells _ t fz => .cells #[.iface 130 (.agg #[.pointer (some ⟨1, 33, none⟩)])] t fz
      | o => o }
theorem laidWorld_met (os : Os) (args : Array Value) : laidMetH Tryd.prog laidE ((laidWorld os).forCall (fun _ _ => 0) ⟨#[], args, []⟩).memory :=
  laidMetH_of_parts (laidMet_nil _ _) (by kernel_rfl)
end Go.Proofs.YtpbbnpglcadimaaDoor
namespace Go.Proofs.YtpbbnpglcadimaaDoor
open Go.ChangeShapes Go.WideShapes Go.ChangeAt Go.RowKit Go.Deep
set_option linter.unusedVariables false
section
variable {H : Type} {enc : TypeId × Value → H} {P : Program} {w : World} {d : DataW H} {p : List MemPlace}
def rowAV (r : RowA) : Value := .slice r.1 r.2.1 r.2.2.1
theorem view_rowsA {t e g b0 b3 : TypeId} {f0 f1 f2 f3 f4 : Field} (ht : P.underlying t = some (.slice e)) (hc : P.cellsOf e = 1) (he : P.underlying e = some (.slice g)) (hs : P.underlying g = some (.struct #[f0, f1, f2, f3, f4])) (hone : oneCellFields P #[f0, f1, f2, f3, f4] = true) (hC : P.cellsOf g = 5)
    (h0 : P.underlying f0.type = some (.slice b0)) (hb0 : P.underlying b0 = some (.int .u8)) (hcb0 : P.cellsOf b0 = 1) (hbb0 : P.bytesOf b0 = 1) (h1 : P.underlying f1.type = some (.int .u8)) (h2 : P.underlying f2.type = some (.int .u32))
    (h3 : P.underlying f3.type = some (.slice b3)) (hb3 : P.underlying b3 = some (.int .u8)) (hcb3 : P.cellsOf b3 = 1) (hbb3 : P.bytesOf b3 = 1) (h4 : P.underlying f4.type = some .string) {m : Nat} {cs : List Value}
    (h : DataW.trod enc P w 0 (fun _ => true) true m t cs = some (d, p)) :
    ∃ A n c, ∃ rows : List RowA, cs = [.slice A n c] ∧ Rows9 w A n rows ∧ n ≤ c ∧ c ≤ maxLen ∧ (A = none → n = 0 ∧ c = 0) := by
  obtain ⟨A, n, c, vs, hcs, hS, hl, hd⟩ := view_slice1 ht hc h
  rcases hd with ⟨rfl, rfl, rfl⟩ | ⟨el, sp, rfl, hel, hsp, hj⟩
  · exact ⟨A, 0, 0, [], hcs, ⟨rfl, fun i r hr => by simp at hr, fun i r hr => by simp at hr⟩, Nat.le_refl _, Nat.zero_le _, hS.none_⟩
  · obtain ⟨xs, h1', h2', h3'⟩ := choose_list2 (γ := RowA × DataW H) (f := fun x => rowAV x.1) (g := fun x => x.2) (p := fun x => ActsAt w x.1.1 x.1.2.1 x.1.2.2.2 ∧ x.1.2.1 ≤ maxLen) vs el (by omega) (fun j hjj => by
      obtain ⟨u, D, pl, m', a, b', ht'⟩ := hj j (by omega)
      obtain ⟨A', n', c', zs, el', e1, hS', -, -, -⟩ := view_acts5 he hs hone hC h0 hb0 hcb0 hbb0 h1 h2 h3 hb3 hcb3 hbb3 h4 ht'
      simp only [List.cons.injEq, and_true] at e1
      exact ⟨((A', n', c', zs), D), by rw [a, e1]; rfl, b', hS'.at_, hS'.most⟩)
    subst h1' h2'
    have hlx : xs.length = n := by simpa using hl
    refine ⟨A, n, c, xs.map (·.1), hcs, ⟨by simpa using hl, fun i r hr => ?_, fun i r hr => ?_⟩, hS.le, hS.max, hS.none_⟩
    · rw [List.getElem?_map, Option.map_eq_some_iff] at hr
      obtain ⟨x, hx, rfl⟩ := hr
      have hi : i < n := by have := (List.getElem?_eq_some_iff.1 hx).1; omega
      obtain ⟨b, off, u, hA, hlt, hu, hcell⟩ := hS.sl.at_ hi
      rw [List.getElem?_map, hx] at hu
      cases hu
      exact ⟨b, off, hA, hlt, hcell⟩
    · rw [List.getElem?_map, Option.map_eq_some_iff] at hr
      obtain ⟨x, hx, rfl⟩ := hr
      exact h3' x (List.mem_of_getElem? hx)
end
end Go.Proofs.YtpbbnpglcadimaaDoor
