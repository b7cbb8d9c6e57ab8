/- The walk of ActionSame. -/
import Derived.Test.YtlofbgbbbpmodaaActO
import Derived.Test.YtlofbgbbbpmodaaLawActA
import Derived.Test.YtlofbgbbbpmodaaObw
import Derived.Test.YtlofbgbbbpmodaaCopy3
import Derived.Outline
namespace Go.Proofs.Ytlofbgbbbpmodaa
open Go.RowKit
set_option linter.unusedVariables false
set_option linter.unusedSimpArgs false
set_option maxRecDepth 20000
attribute [local simp] putsF isV wordOf Deps Region.binds Region.wanted Act.put wantedX isB
theorem same_n (k k' : Int) (s s' : ByteArray) (b b' : Bool) (A A' : Option Addr) (n n' c c' : Nat) (rs rs' : List RecT) (t : Bool) (w : World) (h : Recs w A rs) (h' : Recs w A' rs') (hn : rs.length = n) (hn' : rs'.length = n') (hs : n ≤ 1000) (hs' : n' ≤ 1000)
    (ht : actEq (k, s, b, rs) (k', s', b', rs') = t) :
    Calls Try.prog 10 #[.agg #[.int .i64 k, .string s, .bool b, .slice A n c], .agg #[.int .i64 k', .string s', .bool b', .slice A' n' c']] w fun e w' => e = .returned (.bool t) ∧ Below w.heap.size w w' := by
  subst hn hn' ht
  exact same_any (k, s, b, rs) (k', s', b', rs') A A' c c' w h h' (by unfold maxLen; simp only; omega) (by unfold maxLen; simp only; omega)
set_option maxHeartbeats 6400000 in
theorem actionSame_walk (w : World) (A : Option Addr) (n c : Nat) (ds : List ActT) (hV : Acts5 w A n c ds) (B : Option Addr) (m b : Nat) (es : List ActT) (hU : Acts5 w B m b es) (how : Int) (hhw : (Lit.int .u8 how).wf = true)
    (C : Option Addr) (p q : Nat) (zs : List Int) (hT : SlView w C p q (zs.map (Value.int .u8))) (hl : zs.length = p) (hzw : ∀ z ∈ zs, (Lit.int .u8 z).wf = true) (hq : q ≤ 140737488351232) (kd : Int) (hkw : (Lit.int .u8 kd).wf = true) :
    Calls Try.prog 4 #[.slice A n c, .slice B m b, .int .u8 how, .slice C p q, .int .u8 kd] w fun e w' => e = .returned (.bool true) ∧ Below w.heap.size w w' := by
  have hkd := u8_wf hkw
  have hhd := u8_wf hhw
  obtain ⟨kn, rfl⟩ : ∃ kn : Nat, kd = kn := ⟨kd.toNat, by omega⟩
  obtain ⟨h, rfl⟩ : ∃ kn : Nat, how = kn := ⟨how.toNat, by omega⟩
  obtain ⟨i0, hi, hz0, hz1, hz2⟩ := info_parts4 rec_info
  have hz : ∀ z ∈ zs, 0 ≤ z ∧ z < 256 := fun z h => u8_wf (hzw z h)
  have hpq := hT.le
  have TG := Lib.hid (fun (w' : World) (hS : Sl w' w'.heap.size 1 C p (zs.map (Value.int .u8))) => target_any h (by omega) C p q zs w' hS hz (by omega))
  have HT := Lib.hid hT.sl
  have HV := Lib.hid hV
  have HU := Lib.hid hU
  obtain ⟨k9, hk9, hk98⟩ : ∃ k9 : Nat, (kn : Int) % 9 = (k9 : Int) ∧ k9 ≤ 8 := ⟨kn % 9, by omega, by omega⟩
  obtain ⟨w2, hw2⟩ : ∃ b : Bool, ((h : Int) % 2 == 1) = b := ⟨_, rfl⟩
  have hk9t : (kn : Int).tmod 9 = (k9 : Int) := by rw [Int.tmod_eq_emod_of_nonneg (by omega)]; exact hk9
  have hw2t : ((h : Int).tmod 2 == 1) = w2 := by rw [Int.tmod_eq_emod_of_nonneg (by omega)]; exact hw2
  clear hV hU hT hkw hhw hz hzw hl
  go_enter Try.func4, Try.ntmps4
  go_wp2_with fail
  refine (awake14_any _).mono ?_
  rintro e w1 ⟨rfl, hb1⟩
  have HB1 := Lib.hid hb1
  clear hb1
  go_wp2_with fail
  refine (TG.out _ ((HT.out.below HB1.out).more HB1.out.size)).mono ?_
  rintro e w3 ⟨s, rfl, hs84, -, hb3⟩
  have HB3 := Lib.hid (below_trans HB1.out HB1.out.size hb3)
  clear hb3
  go_wp2_with fail
  refine (records_any A n c 4 ds w3 (HV.out.at_.below HB3.out) HV.out.most (by decide)).mono ?_
  rintro e w4 ⟨v1, rfl, ho1⟩
  obtain ⟨rs, hrs⟩ : ∃ rs, rs = recsOf ds 4 := ⟨_, rfl⟩
  rw [← hrs] at ho1
  obtain ⟨N, hN⟩ : ∃ N, rs.length = N := ⟨_, rfl⟩
  have hN8 : N ≤ 4 := by rw [← hN, hrs, recsOf_len]; omega
  rw [hN] at ho1
  obtain ⟨A1, c1, rfl, hnc, hcm, hA1⟩ := ho1.slice
  have HO1 := Lib.hid ho1
  have HN := Lib.hid hN
  have HB4 := Lib.hid (below_trans HB3.out HB3.out.size ho1.bel)
  have HA1 := Lib.hid hA1
  clear ho1 hrs hN hA1 HB1 HB3
  have hS : Hid (∀ w', Below w4.heap.size w4 w' → Src Try.prog 4 24 (.slice A1 N c1) N (flatR rs) w') := Lib.hid (fun w' hb => ((HO1.out.keep hb (Nat.le_refl _)).sl.srcM Try.underlying24 (fun h => (HA1.out h).1) (flatR_one _)))
  obtain ⟨W, hW⟩ : ∃ W, W = (w4.alloc (.cells #[.int .i64 (k9 : Nat), .string s, .bool w2, .slice A1 N c1] 34)).alloc (.cells #[.int .i64 (k9 : Nat), .string s, .bool w2, .slice A1 N c1] 34) := ⟨_, rfl⟩
  have hCa : Cs W w4.heap.size [.int .i64 (k9 : Nat), .string s, .bool w2, .slice A1 N c1] := by rw [hW]; exact (Cs.new w4 _ _ _).alloc _
  have hCb : Cs W (w4.heap.size + 1) [.int .i64 (k9 : Nat), .string s, .bool w2, .slice A1 N c1] := by rw [hW]; exact (Cs.new _ _ _ _).at_ _ (by simp)
  have hbW : Below w4.heap.size w4 W := by rw [hW]; exact ((Below.refl _ _).alloc (Nat.le_refl _) _).alloc (by simp) _
  have HW := Lib.hid hW
  have HCA := Lib.hid hCa
  have HCB := Lib.hid hCb
  have HBW := Lib.hid hbW
  clear hW hCa hCb hbW
  go_wp2_with (at_builtin; go_loud (refine wpList_append_obm rfl (.const (.slice none 0 0)) _ 24 24 rfl 31 i0 _ 40 Try.underlying24 hi hz0 hz1 hz2 rfl (show OBM 4 W.heap.size W (.slice none 0 0) 0 [] _ from (by rw [HW.out]; exact OBM.start _)) rfl rfl (hS.out _ (((Below.refl _ _).alloc (Nat.le_refl _) _).alloc (by simp) _)) HO1.out.len (by unfold maxLen; omega) (by omega) ?_))
  intro v2 w5 q1 q2 q3 q4
  replace q1 : OBM 4 W.heap.size W v2 N (flatR rs) w5 := by simpa using q1
  have hCA5 := HCA.out.below q1.bel
  have hCB5 := HCB.out.below q1.bel
  have HB5 := Lib.hid (below_trans HBW.out HBW.out.size q1.bel)
  obtain ⟨A2, c2, rfl, -, -, hA2⟩ := q1.slice3
  have HO2 := Lib.hid q1
  have HLT := Lib.hid (show w4.heap.size + 1 < W.heap.size from HCB.out.lt)
  have c0 := hCA5.get 0 _
  have c1' := hCA5.get 1 _
  have c2' := hCA5.get 2 _
  have c3' := hCA5.get 3 _
  have d3 := hCB5.get 3 _
  have f3 := hCB5.froz 3 (by simp)
  have hlt := hCB5.lt
  obtain ⟨W6, hW6⟩ : ∃ W6, W6 = (w5.setCell ⟨w4.heap.size + 1, 3, none⟩ (.slice A2 N c2)).alloc (.cells #[.int .i64 (k9 : Nat), .string s, .bool w2, .slice A1 N c1] 34) := ⟨_, rfl⟩
  have hs6 : W6.heap.size = w5.heap.size + 1 := by rw [hW6]; simp
  have hb6 : Below w4.heap.size w4 W6 := by rw [hW6]; exact (HB5.out.setCell (by simp) _).alloc (by simpa using HB5.out.size) _
  have e1 : Cs W6 w4.heap.size [.int .i64 (k9 : Nat), .string s, .bool w2, .slice A1 N c1] := by rw [hW6]; exact (hCA5.other _ _ _ (by omega)).alloc _
  have e2 : Cs W6 (w4.heap.size + 1) [.int .i64 (k9 : Nat), .string s, .bool w2, .slice A2 N c2] := by rw [hW6]; exact (hCB5.set' 3 _ (by simp)).alloc _
  have e3 : Cs W6 w5.heap.size [.int .i64 (k9 : Nat), .string s, .bool w2, .slice A1 N c1] := by rw [hW6]; exact (Cs.new _ _ _ _).at_ _ (by simp)
  have o2 : OBM 4 w4.heap.size w4 (.slice A2 N c2) N (flatR rs) W6 := by
    have h0 := HO2.out.out HBW.out.size HBW.out
    refine h0.block hb6 (by omega) (fun k hk => ?_)
    have hk2 := HO2.out.lt k hk
    have hne : k ≠ w4.heap.size + 1 := by have := HLT.out; omega
    rw [hW6, Below.heap_alloc _ _ k (by simpa using hk2.2), Below.heap_setCell _ _ _ k hne]
  have HK2 : Hid (∀ k, (Value.slice A2 N c2).ownBlock = some k → k < w5.heap.size) := Lib.hid (fun k hk => (HO2.out.lt k hk).2)
  have hg3 : w4.heap.size + 1 < w5.heap.size := hlt
  have HW6 := Lib.hid hW6
  have HE1 := Lib.hid e1
  have HE2 := Lib.hid e2
  have HE3 := Lib.hid e3
  have HR2 := Lib.hid o2
  have HB6 := Lib.hid hb6
  have HG3 := Lib.hid hg3
  have HS6 := Lib.hid hs6
  clear q1 q2 q3 q4 hCA5 hCB5 hA2 hW6 e1 e2 e3 o2 hb6 hg3 hs6 HO2
  go_wp2_with fail
  rw [← HW6.out]
  refine (records_any B m b 4 es W6 (HU.out.at_.below (below_trans HB4.out HB4.out.size HB6.out)) HU.out.most (by decide)).mono ?_
  rintro e w7 ⟨v3, rfl, ho3⟩
  obtain ⟨rt, hrt⟩ : ∃ rt, rt = recsOf es 4 := ⟨_, rfl⟩
  rw [← hrt] at ho3
  obtain ⟨M, hM⟩ : ∃ M, rt.length = M := ⟨_, rfl⟩
  have hM8 : M ≤ 4 := by rw [← hM, hrt, recsOf_len]; omega
  rw [hM] at ho3
  obtain ⟨A3, c3, rfl, -, -, -⟩ := ho3.slice
  obtain ⟨g1, hg1⟩ : ∃ g1, g1 = w4.heap.size := ⟨_, rfl⟩
  obtain ⟨g2, hg2⟩ : ∃ g2, g2 = w4.heap.size + 1 := ⟨_, rfl⟩
  obtain ⟨g3, hg3⟩ : ∃ g3, g3 = w5.heap.size := ⟨_, rfl⟩
  obtain ⟨W8, hW8⟩ : ∃ W8, W8 = w7.setCell ⟨g3, 3, none⟩ (.slice A3 M c3) := ⟨_, rfl⟩
  have hb7 := ho3.bel
  have h12 : g1 < g2 ∧ g2 < g3 := by have := HG3.out; omega
  have b1 := (HE1.out.below hb7).at_ g1 hg1.symm
  have b2 := (HE2.out.below hb7).at_ g2 hg2.symm
  have b3 := (HE3.out.below hb7).at_ g3 hg3.symm
  have t1 := b1.other g3 3 (.slice A3 M c3) (by omega)
  have t2 := b2.other g3 3 (.slice A3 M c3) (by omega)
  have t3 := b3.set' 3 (.slice A3 M c3) (by simp)
  rw [← hW8] at t1 t2 t3
  have hbb : Below w4.heap.size w4 W8 := by rw [hW8]; exact (below_trans HB6.out HB6.out.size hb7).setCell (by simp; omega) _
  have u3 : Recs W8 A3 rt := by
    have h0 := ho3.out (C := w4.heap.size) (W0 := w4) HB6.out.size HB6.out
    refine (h0.block hbb (by rw [hW8]; simp) (fun k hk => ?_)).recs hM
    have hk2 := ho3.lt k hk
    have hne : k ≠ g3 := by have := HS6.out; omega
    rw [hW8, Below.heap_setCell _ _ _ k hne]
  have u1 : Recs W8 A1 rs := (HO1.out.keep hbb (Nat.le_refl _)).recs HN.out
  have u2 : Recs W8 A2 rs := by
    refine (HR2.out.block hbb (by rw [hW8]; have := hb7.size; simpa using this) (fun k hk => ?_)).recs HN.out
    have hk2 := HK2.out k hk
    have hne : k ≠ g3 := by omega
    rw [hW8, Below.heap_setCell _ _ _ k hne]
    exact hb7.block k (by have := HS6.out; omega)
  have HT1 := Lib.hid t1
  have HT2 := Lib.hid t2
  have HT3 := Lib.hid t3
  have HU1 := Lib.hid u1
  have HU2 := Lib.hid u2
  have HU3 := Lib.hid u3
  have HM := Lib.hid hM
  have HBB := Lib.hid (below_trans HB4.out HB4.out.size hbb)
  have HW8 := Lib.hid hW8
  have hl12 : g1 < g2 := h12.1
  have hl23 : g2 < g3 := h12.2
  have hl3 : g3 < W8.heap.size := t3.lt
  have k3 := b3.get 3 _
  have f3 := b3.froz 3 (by simp)
  clear b1 b2 b3 t1 t2 t3 hbb u1 u2 u3 hrt hM hb7 ho3 h12 hlt
  rw [hg3] at k3 f3
  clear hW8
  go_wp2_with fail
  have HG1 := Lib.hid hg1
  have HG2 := Lib.hid hg2
  have HG3' := Lib.hid hg3
  rw [← hg2, ← hg1, ← hg3]
  rw [← HW8.out]
  clear hg1 hg2 hg3
  refine wp_region_joint data_follows (C3 W8.heap.size W8 (.int .i64 0) (.string ⟨#[]⟩) (.bool false) (.slice none 0 0) (.int .i64 (k9 : Nat)) (.string s) (.bool w2) (.slice A1 N c1)) (by kernel_rfl) (by kernel_rfl) ?start ?steps ?fin
  case start => exact fun x => C3.start (Nat.le_refl _) (Below.refl _ _).drew x
  case steps =>
    intro i hi d x wr hJ hdi hdeps
    have hi9 : i < 9 := hi
    have hc := HT1.out.below hJ.bel
    have c0 := hc.get 0 _
    have c1 := hc.get 1 _
    have c2 := hc.get 2 _
    have c3 := hc.get 3 _
    clear hc
    have hcs : i = 0 ∨ i = 1 ∨ i = 2 ∨ i = 3 ∨ i = 4 ∨ i = 5 ∨ i = 6 ∨ i = 7 ∨ i = 8 := by omega
    rcases hcs with rfl | rfl | rfl | rfl | rfl | rfl | rfl | rfl | rfl
    all_goals
      simp at hdeps
      simp
    · go_simp; exact (hJ.load 0 (by decide) hdi).dec
    · go_simp; exact (hJ.load 1 (by decide) hdi).dec
    · go_simp; exact (hJ.load 2 (by decide) hdi).dec
    · go_simp; exact (hJ.alloc _ 0 (by decide) hdi).dec
    · go_simp; exact (hJ.alloc _ 1 (by decide) hdi).dec
    · go_simp; exact (hJ.alloc _ 2 (by decide) hdi).dec
    · have x0 := hJ.loads 0 (by decide) (by simp_all)
      have d3 : d 3 = true := by simp_all
      obtain ⟨g, hx, hB, hz, -⟩ := hJ.boxes 0 (by decide) d3
      have hz := hz hdi
      have hx' : x 3 = .pointer (some ⟨g, 0, none⟩) := hx
      rw [x0, hx']
      have k0 := hz.get 0 _
      have k1 := hz.get 1 _
      have k2 := hz.get 2 _
      have k3 := hz.get 3 _
      have f0 := hz.froz 0
      have f1 := hz.froz 1
      have f2 := hz.froz 2
      have f3 := hz.froz 3
      go_simp
      exact ⟨undef, (hJ.store 0 (by decide) d3 hdi g hx undef).dec⟩
    · have x0 := hJ.loads 1 (by decide) (by simp_all)
      have d3 : d 4 = true := by simp_all
      obtain ⟨g, hx, hB, hz, -⟩ := hJ.boxes 1 (by decide) d3
      have hz := hz hdi
      have hx' : x 4 = .pointer (some ⟨g, 0, none⟩) := hx
      rw [x0, hx']
      have k0 := hz.get 0 _
      have k1 := hz.get 1 _
      have k2 := hz.get 2 _
      have k3 := hz.get 3 _
      have f0 := hz.froz 0
      have f1 := hz.froz 1
      have f2 := hz.froz 2
      have f3 := hz.froz 3
      go_simp
      exact ⟨undef, (hJ.store 1 (by decide) d3 hdi g hx undef).dec⟩
    · have x0 := hJ.loads 2 (by decide) (by simp_all)
      have d3 : d 5 = true := by simp_all
      obtain ⟨g, hx, hB, hz, -⟩ := hJ.boxes 2 (by decide) d3
      have hz := hz hdi
      have hx' : x 5 = .pointer (some ⟨g, 0, none⟩) := hx
      rw [x0, hx']
      have k0 := hz.get 0 _
      have k1 := hz.get 1 _
      have k2 := hz.get 2 _
      have k3 := hz.get 3 _
      have f0 := hz.froz 0
      have f1 := hz.froz 1
      have f2 := hz.froz 2
      have f3 := hz.froz 3
      go_simp
      exact ⟨undef, (hJ.store 2 (by decide) d3 hdi g hx undef).dec⟩
  case fin =>
    intro d x wr hall hJ
    obtain ⟨ga, gb, gc, xa, xb, xc, ⟨nab, nac, nbc⟩, ⟨Ba, Bb, Bc⟩, ca, cb, cc⟩ := hJ.done hall
    simp
    rw [xa, xb, xc]
    have hbel := hJ.bel
    have ta := ca.get 0 _
    have fa := ca.froz 0 (by simp)
    have tb := cb.get 2 _
    have fb := cb.froz 2 (by simp)
    have tc := cc.get 1 _
    have fc := cc.froz 1 (by simp)
    have hs1 : ¬ 9223372036854775807 < s.size + 2 := by omega
    have hs2 : ¬ 9223372036854775807 < s.size + (ByteArray.mk #[1, 113]).size := by rw [show (ByteArray.mk #[1, 113]).size = 2 from rfl]; omega
    have hk1 : (k9 : Int) + 1 ≤ 9 := by omega
    have HCa := Lib.hid ca
    have HCb := Lib.hid cb
    have HCc := Lib.hid cc
    have HBE := Lib.hid hbel
    have HNN := Lib.hid (And.intro nab (And.intro nac nbc))
    have HBs := Lib.hid (And.intro Ba (And.intro Bb Bc))
    clear hJ xa xb xc hbel ca cb cc
    go_upto_region 12 with fail

    obtain ⟨S2, hS2⟩ : ∃ S2, S2 = s ++ ByteArray.mk #[1, 113] := ⟨_, rfl⟩
    rw [← hS2]
    obtain ⟨W9, hW9⟩ : ∃ W9, W9 = ((wr.setCell ⟨ga, 0, none⟩ (.int .i64 ((k9 : Int) + 1))).setCell ⟨gb, 2, none⟩ (.bool (!w2))).setCell ⟨gc, 1, none⟩ (.string S2) := ⟨_, rfl⟩
    rw [← hW9]
    have nab := HNN.out.1
    have nac := HNN.out.2.1
    have nbc := HNN.out.2.2
    have hl1 := HT1.out.lt
    have hl2 := HT2.out.lt
    have hl3' := HT3.out.lt
    have Ba := HBs.out.1
    have Bb := HBs.out.2.1
    have Bc := HBs.out.2.2
    have hb9 : Below W8.heap.size W8 W9 := by rw [hW9]; exact ((HBE.out.setCell Ba _).setCell Bb _).setCell Bc _
    have D1 : Hid (Cs W9 g1 [.int .i64 (k9 : Nat), .string s, .bool w2, .slice A1 N c1]) := Lib.hid (HT1.out.below hb9)
    have D2 : Hid (Cs W9 g2 [.int .i64 (k9 : Nat), .string s, .bool w2, .slice A2 N c2]) := Lib.hid (HT2.out.below hb9)
    have D3 : Hid (Cs W9 g3 [.int .i64 (k9 : Nat), .string s, .bool w2, .slice A3 M c3]) := Lib.hid (HT3.out.below hb9)
    have Da : Hid (Cs W9 ga [.int .i64 ((k9 : Int) + 1), .string s, .bool w2, .slice A1 N c1]) := Lib.hid (by rw [hW9]; exact ((HCa.out.set' 0 _ (by simp)).other _ _ _ (by omega)).other _ _ _ (by omega))
    have Db : Hid (Cs W9 gb [.int .i64 (k9 : Nat), .string s, .bool (!w2), .slice A1 N c1]) := Lib.hid (by rw [hW9]; exact ((HCb.out.other _ _ _ (by omega)).set' 2 _ (by simp)).other _ _ _ (by omega))
    have Dc : Hid (Cs W9 gc [.int .i64 (k9 : Nat), .string S2, .bool w2, .slice A1 N c1]) := Lib.hid (by rw [hW9]; exact ((HCc.out.other _ _ _ (by omega)).other _ _ _ (by omega)).set' 1 _ (by simp))
    have r1 := HU1.out.below hb9
    have r2 := HU2.out.below hb9
    have r3 := HU3.out.below hb9
    obtain ⟨t, ht⟩ : ∃ t, decide (rs = rt) = t := ⟨_, rfl⟩
    have hS2s : S2.size = s.size + 2 := by rw [hS2, ByteArray.size_append]; rfl
    have SAB : Hid (∀ wx, Below W9.heap.size W9 wx → Calls Try.prog 10 #[.agg #[.int .i64 (k9 : Nat), .string s, .bool w2, .slice A1 N c1], .agg #[.int .i64 (k9 : Nat), .string s, .bool w2, .slice A2 N c2]] wx fun e w' => e = .returned (.bool true) ∧ Below wx.heap.size wx w') := Lib.hid (fun wx hx => same_n _ _ _ _ _ _ _ _ _ _ _ _ rs rs true wx (r1.below hx) (r2.below hx) HN.out HN.out (by omega) (by omega) (actEq_self _))
    have SAC : Hid (∀ wx, Below W9.heap.size W9 wx → Calls Try.prog 10 #[.agg #[.int .i64 (k9 : Nat), .string s, .bool w2, .slice A1 N c1], .agg #[.int .i64 (k9 : Nat), .string s, .bool w2, .slice A3 M c3]] wx fun e w' => e = .returned (.bool t) ∧ Below wx.heap.size wx w') := Lib.hid (fun wx hx => same_n _ _ _ _ _ _ _ _ _ _ _ _ rs rt t wx (r1.below hx) (r3.below hx) HN.out HM.out (by omega) (by omega) (by simp [actEq, ht]))
    have SAD : Hid (∀ wx, Below W9.heap.size W9 wx → Calls Try.prog 10 #[.agg #[.int .i64 (k9 : Nat), .string s, .bool w2, .slice A1 N c1], .agg #[.int .i64 ((k9 : Int) + 1), .string s, .bool w2, .slice A1 N c1]] wx fun e w' => e = .returned (.bool false) ∧ Below wx.heap.size wx w') := Lib.hid (fun wx hx => same_n _ _ _ _ _ _ _ _ _ _ _ _ rs rs false wx (r1.below hx) (r1.below hx) HN.out HN.out (by omega) (by omega) (actEq_ne (by intro e; injection e with e; omega)))
    have SAE : Hid (∀ wx, Below W9.heap.size W9 wx → Calls Try.prog 10 #[.agg #[.int .i64 (k9 : Nat), .string s, .bool w2, .slice A1 N c1], .agg #[.int .i64 (k9 : Nat), .string s, .bool (!w2), .slice A1 N c1]] wx fun e w' => e = .returned (.bool false) ∧ Below wx.heap.size wx w') := Lib.hid (fun wx hx => same_n _ _ _ _ _ _ _ _ _ _ _ _ rs rs false wx (r1.below hx) (r1.below hx) HN.out HN.out (by omega) (by omega) (actEq_ne (by intro e; injection e with _ e; injection e with _ e; injection e with e; cases w2 <;> simp at e)))
    have SFA : Hid (∀ wx, Below W9.heap.size W9 wx → Calls Try.prog 10 #[.agg #[.int .i64 (k9 : Nat), .string S2, .bool w2, .slice A1 N c1], .agg #[.int .i64 (k9 : Nat), .string s, .bool w2, .slice A1 N c1]] wx fun e w' => e = .returned (.bool false) ∧ Below wx.heap.size wx w') := Lib.hid (fun wx hx => same_n _ _ _ _ _ _ _ _ _ _ _ _ rs rs false wx (r1.below hx) (r1.below hx) HN.out HN.out (by omega) (by omega) (actEq_ne (by intro e; injection e with _ e; injection e with e; rw [e] at hS2s; omega)))
    have SR : Hid (∀ wx, Below W9.heap.size W9 wx → Calls Try.prog 9 #[.slice A1 N c1, .slice A3 M c3] wx fun e w' => e = .returned (.bool t) ∧ Below wx.heap.size wx w') := Lib.hid (fun wx hx => by
      have := same_recs A1 A3 c1 c3 rs rt wx (r1.below hx) (r3.below hx) (by rw [HN.out]; unfold maxLen; omega) (by rw [HM.out]; unfold maxLen; omega)
      rw [HN.out, HM.out, ht] at this
      exact this)
    have HB9 := Lib.hid (below_trans HBB.out HBB.out.size hb9)
    clear ta fa tb fb tc fc hs1 hs2 hk1 hl1 hl2 hl3' nab nac nbc Ba Bb Bc hb9 hW9 hS2 r1 r2 r3 ht hS2s hl12 hl23 hl3 k3 f3
    refine wp_region_goesG data_follows (fun x => by simp [putsF, Act.put]; rfl) W9.heap.size W9
      [isV (.agg #[.int .i64 (k9 : Nat), .string s, .bool w2, .slice A1 N c1]), isV (.agg #[.int .i64 (k9 : Nat), .string s, .bool w2, .slice A2 N c2]), isV (.bool true), isV (.bool true), isV (.agg #[.int .i64 (k9 : Nat), .string s, .bool w2, .slice A1 N c1]), isV (.agg #[.int .i64 (k9 : Nat), .string s, .bool w2, .slice A3 M c3]), isV (.bool t), isV (.pointer (some ⟨g1, 3, none⟩)), isV (.slice A1 N c1), isV (.pointer (some ⟨g3, 3, none⟩)), isV (.slice A3 M c3), isV (.bool t), isV (.bool true), isV (.bool true), isV (.bool true), isV (.agg #[.int .i64 (k9 : Nat), .string s, .bool w2, .slice A1 N c1]), isV (.agg #[.int .i64 ((k9 : Int) + 1), .string s, .bool w2, .slice A1 N c1]), isV (.bool false), isV (.bool true), isV (.bool true), isV (.bool true), isV (.agg #[.int .i64 (k9 : Nat), .string s, .bool w2, .slice A1 N c1]), isV (.agg #[.int .i64 (k9 : Nat), .string s, .bool (!w2), .slice A1 N c1]), isV (.bool false), isV (.bool true), isV (.bool true), isV (.bool true), isV (.agg #[.int .i64 (k9 : Nat), .string S2, .bool w2, .slice A1 N c1]), isV (.agg #[.int .i64 (k9 : Nat), .string s, .bool w2, .slice A1 N c1]), isV (.bool false), isV (.bool true), isV (.bool true), isV (.bool true)]
      (by kernel_rfl) (by kernel_rfl) (by kernel_rfl) rfl ?_ (Below.refl _ _) ?_ ?_
    · repeat (first | exact trivial | refine ⟨isV_stays _, ?_⟩)
    · refine ⟨?_, ?_, ?_, ?_, ?_, ?_, ?_, ?_, ?_, ?_, ?_, ?_, ?_, ?_, ?_, ?_, ?_, ?_, ?_, ?_, ?_, ?_, ?_, ?_, ?_, ?_, ?_, ?_, ?_, ?_, ?_, ?_, ?_, trivial⟩
      all_goals
        intro x wx hR hd
        simp at hd ⊢
      all_goals try simp [hd]
      · have q := D1.out.below hR
        have k0 := q.get 0 _
        have k1 := q.get 1 _
        have k2 := q.get 2 _
        have k3 := q.get 3 _
        clear q
        go_simp; exact next_same _ rfl rfl hR
      · have q := D2.out.below hR
        have k0 := q.get 0 _
        have k1 := q.get 1 _
        have k2 := q.get 2 _
        have k3 := q.get 3 _
        clear q
        go_simp; exact next_same _ rfl rfl hR
      · go_simp
        go_at_call 10
        refine (SAB.out wx hR).mono ?_
        rintro e w2 ⟨rfl, hb⟩
        exact next_call _ rfl rfl hR hR.size hb
      · go_simp; exact next_same _ rfl rfl hR
      · have q := D1.out.below hR
        have k0 := q.get 0 _
        have k1 := q.get 1 _
        have k2 := q.get 2 _
        have k3 := q.get 3 _
        clear q
        go_simp; exact next_same _ rfl rfl hR
      · have q := D3.out.below hR
        have k0 := q.get 0 _
        have k1 := q.get 1 _
        have k2 := q.get 2 _
        have k3 := q.get 3 _
        clear q
        go_simp; exact next_same _ rfl rfl hR
      · go_simp
        go_at_call 10
        refine (SAC.out wx hR).mono ?_
        rintro e w2 ⟨rfl, hb⟩
        exact next_call _ rfl rfl hR hR.size hb
      · go_simp; exact next_same _ rfl (by show Value.pointer _ = Value.pointer _; first | rfl | rw [HG1.out] | rw [HG3'.out]) hR
      · have q := D1.out.below hR
        have k0 := q.get 0 _
        have k1 := q.get 1 _
        have k2 := q.get 2 _
        have k3 := q.get 3 _
        clear q
        go_simp; exact next_same _ rfl rfl hR
      · go_simp; exact next_same _ rfl (by show Value.pointer _ = Value.pointer _; first | rfl | rw [HG1.out] | rw [HG3'.out]) hR
      · have q := D3.out.below hR
        have k0 := q.get 0 _
        have k1 := q.get 1 _
        have k2 := q.get 2 _
        have k3 := q.get 3 _
        clear q
        go_simp; exact next_same _ rfl rfl hR
      · go_simp
        go_at_call 9
        refine (SR.out wx hR).mono ?_
        rintro e w2 ⟨rfl, hb⟩
        exact next_call _ rfl rfl hR hR.size hb
      · go_simp; exact next_same _ rfl rfl hR
      · go_simp; exact next_same _ rfl rfl hR
      · go_simp; exact next_same _ rfl rfl hR
      · have q := D1.out.below hR
        have k0 := q.get 0 _
        have k1 := q.get 1 _
        have k2 := q.get 2 _
        have k3 := q.get 3 _
        clear q
        go_simp; exact next_same _ rfl rfl hR
      · have q := Da.out.below hR
        have k0 := q.get 0 _
        have k1 := q.get 1 _
        have k2 := q.get 2 _
        have k3 := q.get 3 _
        clear q
        go_simp; exact next_same _ rfl rfl hR
      · go_simp
        go_at_call 10
        refine (SAD.out wx hR).mono ?_
        rintro e w2 ⟨rfl, hb⟩
        exact next_call _ rfl rfl hR hR.size hb
      · go_simp; exact next_same _ rfl rfl hR
      · go_simp; exact next_same _ rfl rfl hR
      · go_simp; exact next_same _ rfl rfl hR
      · have q := D1.out.below hR
        have k0 := q.get 0 _
        have k1 := q.get 1 _
        have k2 := q.get 2 _
        have k3 := q.get 3 _
        clear q
        go_simp; exact next_same _ rfl rfl hR
      · have q := Db.out.below hR
        have k0 := q.get 0 _
        have k1 := q.get 1 _
        have k2 := q.get 2 _
        have k3 := q.get 3 _
        clear q
        go_simp; exact next_same _ rfl rfl hR
      · go_simp
        go_at_call 10
        refine (SAE.out wx hR).mono ?_
        rintro e w2 ⟨rfl, hb⟩
        exact next_call _ rfl rfl hR hR.size hb
      · go_simp; exact next_same _ rfl rfl hR
      · go_simp; exact next_same _ rfl rfl hR
      · go_simp; exact next_same _ rfl rfl hR
      · have q := Dc.out.below hR
        have k0 := q.get 0 _
        have k1 := q.get 1 _
        have k2 := q.get 2 _
        have k3 := q.get 3 _
        clear q
        go_simp; exact next_same _ rfl rfl hR
      · have q := D1.out.below hR
        have k0 := q.get 0 _
        have k1 := q.get 1 _
        have k2 := q.get 2 _
        have k3 := q.get 3 _
        clear q
        go_simp; exact next_same _ rfl rfl hR
      · go_simp
        go_at_call 10
        refine (SFA.out wx hR).mono ?_
        rintro e w2 ⟨rfl, hb⟩
        exact next_call _ rfl rfl hR hR.size hb
      · go_simp; exact next_same _ rfl rfl hR
      · go_simp; exact next_same _ rfl rfl hR
      · go_simp; exact next_same _ rfl rfl hR
    · intro x wx hR hx
      simp [AllWords] at hx
      have h32 : x 32 = .bool true := by simp [hx]
      have HBX := Lib.hid (below_trans HB9.out HB9.out.size hR)
      rw [h32]
      clear hx
      go_wp2_with fail
      go_ret
      exact ⟨rfl, HBX.out⟩
end Go.Proofs.Ytlofbgbbbpmodaa
