/- Texts that walks stand on, one behind the other. -/
import Derived.Test.YtpopnlbpeboiiaaDoorMgPenSA
import Derived.Test.YtpopnlbpeboiiaaDoorMgPenSB
import Derived.Test.YtpopnlbpeboiiaaDoorMgPenSC
import Derived.Test.YtpopnlbpeboiiaaDoorLawPendF
import Derived.Test.YtpopnlbpeboiiaaDoorMgSA
import Derived.Outline
import Derived.Deep.DeepCutAuto
import Derived.Deep.CutBlock
namespace Go.Proofs.YtpopnlbpeboiiaaDoor
open Go.RowKit
set_option linter.unusedVariables false
set_option linter.unusedSimpArgs false
set_option maxRecDepth 20000
attribute [local simp] putsF isV wordOf Deps Region.binds Region.wanted Act.put wantedX isB
theorem wp_code {P : Program} {c c' : Code} {Q : Exit → Act → World → Prop} {a : Act} {w : World} (h : c = c') (h2 : Code.wp P c' Q a w) : Code.wp P c Q a w := by subst h; exact h2
set_option maxHeartbeats 12800000 in
theorem pendingScript_walk (w : World) (hE : Etype w) (A : Option Addr) (n c : Nat) (ds : List DeedP) (S : DeedsP w A n c ds) (B : c ≤ 3518437208780) :
    Calls Tryd.prog 3 #[.slice A n c] w fun e w' => e = .returned (.bool true) ∧ Below w.heap.size w w' := by
  have hle := S.le
  have hn : n ≤ 3518437208780 := by omega
  have hlen := S.len
  have HS := Lib.hid S
  have HL := Lib.hid hlen
  have HN := Lib.hid hn
  have HET := Lib.hid hE
  obtain ⟨i0, hi, hz0, hz1, hz2⟩ := info_parts4 ent_info
  clear S B hle hlen hE hn
  go_enter Tryd.func3, Tryd.ntmps3
  go_wp2_with fail
  refine (awake26_any _).mono ?_
  rintro e w1 ⟨rfl, hb1⟩
  have HB1 := Lib.hid hb1
  clear hb1
  go_wp2_with fail
  go_loopw [3, 4, 29] (fun vt vw i wr => ∃ (k : Nat) (es : List EntT), k ≤ n ∧ i = .int .i64 k ∧ Hid (es.length ≤ 16) ∧ Hid (TV wr vt es) ∧ Hid (TV wr vw es) ∧ Hid (Below w.heap.size w wr)) (fun _ _ i _ => n - (intOf i).toNat)
  case atStart => exact ⟨0, [], Nat.zero_le _, rfl, Lib.hid (by simp), Lib.hid (TV.nil _), Lib.hid (TV.nil _), HB1⟩
  case round =>
    obtain ⟨k, es, hk, rfl, HEL, HT, HW, HB⟩ := hrel
    by_cases hlt : k < n
    · have hlt' : (k : Int) < n := by omega
      obtain ⟨a, ha⟩ : ∃ r, ds[k]? = some r := ⟨_, List.getElem?_eq_getElem (by rw [HL.out]; omega)⟩
      obtain ⟨bb, off, rfl, hbb, hc⟩ := HS.out.cells (by omega)
      have hok := (HS.out.ok_at a (List.mem_of_getElem? ha)).below HB.out
      obtain ⟨g0, g1, g2, g3, g4⟩ := hc k a ha
      have q0 := (HB.out.cell (p := ⟨bb, _, none⟩) hbb).trans g0
      have q1 := (HB.out.cell (p := ⟨bb, _, none⟩) hbb).trans g1
      have q2 := (HB.out.cell (p := ⟨bb, _, none⟩) hbb).trans g2
      have q3 := (HB.out.cell (p := ⟨bb, _, none⟩) hbb).trans g3
      have q4 := (HB.out.cell (p := ⟨bb, _, none⟩) hbb).trans g4
      have EN := fun w h => entry_any a w h
      have HOK := Lib.hid hok
      clear g0 g1 g2 g3 g4 hc ha
      generalize heo : entOf a = eo at *
      obtain ⟨x0, x1, ⟨A1, n1, c1, l1⟩, x3, x4⟩ := a
      have hop := hok.op
      have hti := hok.ti
      simp only at hop hti
      obtain ⟨xn, rfl⟩ : ∃ xn : Nat, x0 = xn := ⟨x0.toNat, by omega⟩
      obtain ⟨o, ho⟩ : ∃ o, o = xn % 5 := ⟨_, rfl⟩
      have hom : (xn : Int).tmod 5 = (o : Int) := by rw [Int.tmod_eq_emod_of_nonneg (by omega)]; omega
      have ho5 : o = 0 ∨ o = 1 ∨ o = 2 ∨ o = 3 ∨ o = 4 := by omega
      have HO5 := Lib.hid ho5
      have HTI := Lib.hid hti
      obtain ⟨e0, e1, e2, e3, e4, e5⟩ := eo
      unfold rowV at q2
      unfold deedA rowV entA entCells at EN
      simp only at EN q2
      have EN := Lib.hid EN
      clear heo ho ho5 hop hti hok
      have hnv := HN.out
      obtain ⟨m, hm⟩ : ∃ m, m = es.length := ⟨_, rfl⟩
      have HM := Lib.hid hm
      have HM16 := Lib.hid (show m ≤ 16 by rw [hm]; exact HEL.out)
      clear hm
      go_upto_region 8 with fail
      go_wp2_with fail
      refine (EN.out _ (HOK.out.below ((Below.refl _ _).alloc (Nat.le_refl _) _))).mono ?_
      rintro e w2 ⟨rfl, hb2⟩
      have hCA := (Cs.new wr #[.int .u8 (xn : Nat), .int .u8 x1, .slice A1 n1 c1, .int .u8 x3, .int .i8 x4] 29 [.int .u8 (xn : Nat), .int .u8 x1, .slice A1 n1 c1, .int .u8 x3, .int .i8 x4]).below hb2
      have hbA : Below wr.heap.size wr w2 := below_alloc _ (Below.refl _ _) (Nat.le_refl _) hb2
      have hbZ : Below w2.heap.size w2 ((w2.alloc (.cells #[.int .u16 0, .int .u16 0, .bool false, .int .i64 0, .bool false, .bool false, .bool false, .bool false, .int .i64 0, .string ⟨#[]⟩, .int .u16 0, .slice none 0 0, .slice none 0 0, .slice none 0 0, .int .i64 0, .string ⟨#[]⟩, .int .i64 0, .bool false, .int .i64 0] 41)).setCells w2.heap.size 0 [.int .u16 e0, .int .u16 0, .bool false, .int .i64 0, .bool false, .bool false, .bool false, .bool false, .int .i64 0, .string e1, .int .u16 e2, .slice none 0 0, .slice none 0 0, .slice none 0 0, .int .i64 0, .string e3, .int .i64 e4, .bool false, .int .i64 e5]) := below_setCells' (Nat.le_refl _) _ 0 ((Below.refl _ _).alloc (Nat.le_refl _) _)
      have hZ := Cs.new w2 #[.int .u16 0, .int .u16 0, .bool false, .int .i64 0, .bool false, .bool false, .bool false, .bool false, .int .i64 0, .string ⟨#[]⟩, .int .u16 0, .slice none 0 0, .slice none 0 0, .slice none 0 0, .int .i64 0, .string ⟨#[]⟩, .int .i64 0, .bool false, .int .i64 0] 41 [.int .u16 0, .int .u16 0, .bool false, .int .i64 0, .bool false, .bool false, .bool false, .bool false, .int .i64 0, .string ⟨#[]⟩, .int .u16 0, .slice none 0 0, .slice none 0 0, .slice none 0 0, .int .i64 0, .string ⟨#[]⟩, .int .i64 0, .bool false, .int .i64 0]
      have HTH := Lib.hid (hZ.there 19 rfl)
      have hM5 := hZ.mid [.int .u16 e0, .int .u16 0, .bool false, .int .i64 0, .bool false, .bool false, .bool false, .bool false, .int .i64 0, .string e1, .int .u16 e2, .slice none 0 0, .slice none 0 0, .slice none 0 0, .int .i64 0, .string e3, .int .i64 e4, .bool false, .int .i64 e5] rfl
      have hbB : Below wr.heap.size wr ((w2.alloc (.cells #[.int .u16 0, .int .u16 0, .bool false, .int .i64 0, .bool false, .bool false, .bool false, .bool false, .int .i64 0, .string ⟨#[]⟩, .int .u16 0, .slice none 0 0, .slice none 0 0, .slice none 0 0, .int .i64 0, .string ⟨#[]⟩, .int .i64 0, .bool false, .int .i64 0] 41)).setCells w2.heap.size 0 [.int .u16 e0, .int .u16 0, .bool false, .int .i64 0, .bool false, .bool false, .bool false, .bool false, .int .i64 0, .string e1, .int .u16 e2, .slice none 0 0, .slice none 0 0, .slice none 0 0, .int .i64 0, .string e3, .int .i64 e4, .bool false, .int .i64 e5]) := below_trans hbA hbA.size hbZ
      have hA5 := hCA.below hbZ
      have H5 := Lib.hid (And.intro hM5 (And.intro hA5 hbB))
      clear hb2 hbA hbZ hZ hM5 hbB hCA hA5 q0 q1 q2 q3 q4
      go_upto_region 9 with (first | refine wpList_store_mid rfl 41 _ _ rfl w2.heap.size 0 #[.int .u16 e0, .int .u16 0, .bool false, .int .i64 0, .bool false, .bool false, .bool false, .bool false, .int .i64 0, .string e1, .int .u16 e2, .slice none 0 0, .slice none 0 0, .slice none 0 0, .int .i64 0, .string e3, .int .i64 e4, .bool false, .int .i64 e5] rfl rfl HTH.out (by kernel_rfl) (by simp [Value.oneCell']) ?_)
      obtain ⟨hM5, hA5, hB5⟩ := H5.out
      generalize (w2.alloc (.cells #[.int .u16 0, .int .u16 0, .bool false, .int .i64 0, .bool false, .bool false, .bool false, .bool false, .int .i64 0, .string ⟨#[]⟩, .int .u16 0, .slice none 0 0, .slice none 0 0, .slice none 0 0, .int .i64 0, .string ⟨#[]⟩, .int .i64 0, .bool false, .int .i64 0] 41)).setCells w2.heap.size 0 [.int .u16 e0, .int .u16 0, .bool false, .int .i64 0, .bool false, .bool false, .bool false, .bool false, .int .i64 0, .string e1, .int .u16 e2, .slice none 0 0, .slice none 0 0, .slice none 0 0, .int .i64 0, .string e3, .int .i64 e4, .bool false, .int .i64 e5] = w5 at *
      obtain ⟨g7, hg7⟩ : ∃ g, g = w2.heap.size := ⟨_, rfl⟩
      obtain ⟨g6, hg6⟩ : ∃ g, g = wr.heap.size := ⟨_, rfl⟩
      rw [← hg7] at hM5 ⊢
      rw [← hg6] at hA5 ⊢
      have HC7 := Lib.hid hM5
      have HC6 := Lib.hid hA5
      have HT5 := Lib.hid (HT.out.below hB5)
      have HW5 := Lib.hid (HW.out.below hB5)
      have HB5 := Lib.hid (below_trans HB.out HB.out.size hB5)
      obtain ⟨VT, CT, rfl, -⟩ := HT.out
      obtain ⟨VW, CW, rfl, -⟩ := HW.out
      rw [← HM.out] at HT5 HW5 ⊢
      clear hM5 hA5 hB5 hg7 hg6 H5 HTH HOK EN HT HW HB
      have c0 := HC6.out.get 0 _
      go_upto_block 2 with fail
      clear c0 hom
      go_cut [3, 4, 8, 10, 11, 12, 13, 14, 15, 16, 17, 18, 19, 20, 22, 23, 24] (fun v3 v4 z1 z2 z3 z4 z5 z6 z7 z8 z9 za zb zc zd ze zf wc => ∃ es', Hid (es'.length ≤ 16) ∧ Hid (TV wc v3 es') ∧ Hid (TV wc v4 es') ∧ Hid (Below w.heap.size w wc))
      case first =>
        go_step
        go_step
        go_cut [73] (fun v wc => v = .bool (decide (o < 3)) ∧ wc = w5)
        case first =>
          have ho5 := HO5.out
          rcases ho5 with rfl | rfl | rfl | rfl | rfl
          all_goals
            go_wp2_with fail
            go_meet
            exact ⟨rfl, rfl⟩
        case rest =>
          obtain ⟨rfl, hwc⟩ := hcut
          replace hwc := hwc.symm
          subst hwc
          rename_i a5 K2 K1 Qx a4 a3 Jx Kx hJ hM Kc hC
          clear a4 a3
          refine hC _ _ (wp_code (c' := penSwitch) (by kernel_rfl) ?_)
          clear hC
          by_cases h3 : o < 3
          · rw [decide_eq_true h3]
            clear h3
            exact penA (u2 := u2) (u8 := u8) (u10 := u10) (u11 := u11) (u12 := u12) (u13 := u13) (u14 := u14) (u15 := u15) (u16 := u16) (u17 := u17) (u18 := u18) (u19 := u19) (u20 := u20) (u22 := u22) (u23 := u23) (u24 := u24) (u30 := u30) (u31 := u31) (u32 := u32) (u33 := u33) (u34 := u34) (u35 := u35) (u36 := u36) (u38 := u38) (u39 := u39) (u40 := u40) (u41 := u41) (u42 := u42) (u43 := u43) (u44 := u44) (u45 := u45) (u46 := u46) (u47 := u47) (u48 := u48) (u49 := u49) (u50 := u50) (u51 := u51) (u52 := u52) (u53 := u53) (u54 := u54) (u55 := u55) (u56 := u56) (u57 := u57) (u58 := u58) (u59 := u59) (u60 := u60) (u61 := u61) (u62 := u62) (u63 := u63) (u64 := u64) (u65 := u65) (u66 := u66) (u67 := u67) (u68 := u68) (u69 := u69) (u70 := u70) (u71 := u71) (u72 := u72) (u74 := u74) (u75 := u75) (u76 := u76) (u77 := u77) (u78 := u78) (u79 := u79) (u80 := u80) (u81 := u81) (u82 := u82) (u83 := u83) (u84 := u84) (u85 := u85) (u86 := u86) (u87 := u87) (u88 := u88) (u89 := u89) (u90 := u90) (u91 := u91) (u92 := u92) (u93 := u93) (u94 := u94) (u95 := u95) (u96 := u96) (u97 := u97) (u98 := u98) (u99 := u99) (u100 := u100) (u101 := u101) (u102 := u102) (u103 := u103) (u104 := u104) (u105 := u105) (u106 := u106) (u107 := u107) (u108 := u108) (u109 := u109) (u110 := u110) (u111 := u111) (u112 := u112) (u113 := u113) (u114 := u114) (u115 := u115) (u116 := u116) (u117 := u117) (u118 := u118) (u119 := u119) (u120 := u120) (u121 := u121) (u122 := u122) (u123 := u123) (u124 := u124) (u125 := u125) (u126 := u126) (u127 := u127) (u128 := u128) (u129 := u129) (u130 := u130) (u131 := u131) (u132 := u132) (u133 := u133) (u134 := u134) (u135 := u135) (u136 := u136) (u137 := u137) (u138 := u138) (u139 := u139) (u140 := u140) (u141 := u141) (u142 := u142) (u143 := u143) (u144 := u144) (u145 := u145) (u146 := u146) (u147 := u147) (u148 := u148) (u149 := u149) (u150 := u150) (u151 := u151) (u152 := u152) (u153 := u153) (u154 := u154) (u155 := u155) (u156 := u156) (u157 := u157) (u158 := u158) (u159 := u159) (u160 := u160) (u161 := u161) (u162 := u162) (u163 := u163) (u164 := u164) (u165 := u165) (u166 := u166) (u167 := u167) (u168 := u168) (u169 := u169) (u170 := u170) (u171 := u171) (u172 := u172) (u173 := u173) (u174 := u174) (u175 := u175) (u176 := u176) (u177 := u177) (u178 := u178) (u179 := u179) (u180 := u180) (u181 := u181) (u182 := u182) (u183 := u183) (u184 := u184) (u185 := u185) (u186 := u186) (u187 := u187) (u188 := u188) (u189 := u189) (u190 := u190) (u191 := u191) (u192 := u192) (u193 := u193) (u194 := u194) (u195 := u195) (u196 := u196) (u197 := u197) (u198 := u198) (u199 := u199) (u200 := u200) (u201 := u201) (u202 := u202) (u203 := u203) (u204 := u204) (u205 := u205) (u206 := u206) (u207 := u207) (w2 := w2) (wr := wr) HL HN HET hi hz0 hz1 hz2 HB1 hk HEL hlt hlt HS hbb HO5 HTI EN hnv HM HM16 HC7 HC6 HB5 HT5 HW5 hJ hM
          · rw [decide_eq_false h3]
            have ho5 := HO5.out
            have ho34 : o = 3 ∨ o = 4 := by omega
            clear h3 ho5
            rcases ho34 with rfl | rfl
            · exact penB (u2 := u2) (u8 := u8) (u10 := u10) (u11 := u11) (u12 := u12) (u13 := u13) (u14 := u14) (u15 := u15) (u16 := u16) (u17 := u17) (u18 := u18) (u19 := u19) (u20 := u20) (u22 := u22) (u23 := u23) (u24 := u24) (u30 := u30) (u31 := u31) (u32 := u32) (u33 := u33) (u34 := u34) (u35 := u35) (u36 := u36) (u38 := u38) (u39 := u39) (u40 := u40) (u41 := u41) (u42 := u42) (u43 := u43) (u44 := u44) (u45 := u45) (u46 := u46) (u47 := u47) (u48 := u48) (u49 := u49) (u50 := u50) (u51 := u51) (u52 := u52) (u53 := u53) (u54 := u54) (u55 := u55) (u56 := u56) (u57 := u57) (u58 := u58) (u59 := u59) (u60 := u60) (u61 := u61) (u62 := u62) (u63 := u63) (u64 := u64) (u65 := u65) (u66 := u66) (u67 := u67) (u68 := u68) (u69 := u69) (u70 := u70) (u71 := u71) (u72 := u72) (u74 := u74) (u75 := u75) (u76 := u76) (u77 := u77) (u78 := u78) (u79 := u79) (u80 := u80) (u81 := u81) (u82 := u82) (u83 := u83) (u84 := u84) (u85 := u85) (u86 := u86) (u87 := u87) (u88 := u88) (u89 := u89) (u90 := u90) (u91 := u91) (u92 := u92) (u93 := u93) (u94 := u94) (u95 := u95) (u96 := u96) (u97 := u97) (u98 := u98) (u99 := u99) (u100 := u100) (u101 := u101) (u102 := u102) (u103 := u103) (u104 := u104) (u105 := u105) (u106 := u106) (u107 := u107) (u108 := u108) (u109 := u109) (u110 := u110) (u111 := u111) (u112 := u112) (u113 := u113) (u114 := u114) (u115 := u115) (u116 := u116) (u117 := u117) (u118 := u118) (u119 := u119) (u120 := u120) (u121 := u121) (u122 := u122) (u123 := u123) (u124 := u124) (u125 := u125) (u126 := u126) (u127 := u127) (u128 := u128) (u129 := u129) (u130 := u130) (u131 := u131) (u132 := u132) (u133 := u133) (u134 := u134) (u135 := u135) (u136 := u136) (u137 := u137) (u138 := u138) (u139 := u139) (u140 := u140) (u141 := u141) (u142 := u142) (u143 := u143) (u144 := u144) (u145 := u145) (u146 := u146) (u147 := u147) (u148 := u148) (u149 := u149) (u150 := u150) (u151 := u151) (u152 := u152) (u153 := u153) (u154 := u154) (u155 := u155) (u156 := u156) (u157 := u157) (u158 := u158) (u159 := u159) (u160 := u160) (u161 := u161) (u162 := u162) (u163 := u163) (u164 := u164) (u165 := u165) (u166 := u166) (u167 := u167) (u168 := u168) (u169 := u169) (u170 := u170) (u171 := u171) (u172 := u172) (u173 := u173) (u174 := u174) (u175 := u175) (u176 := u176) (u177 := u177) (u178 := u178) (u179 := u179) (u180 := u180) (u181 := u181) (u182 := u182) (u183 := u183) (u184 := u184) (u185 := u185) (u186 := u186) (u187 := u187) (u188 := u188) (u189 := u189) (u190 := u190) (u191 := u191) (u192 := u192) (u193 := u193) (u194 := u194) (u195 := u195) (u196 := u196) (u197 := u197) (u198 := u198) (u199 := u199) (u200 := u200) (u201 := u201) (u202 := u202) (u203 := u203) (u204 := u204) (u205 := u205) (u206 := u206) (u207 := u207) (w2 := w2) (wr := wr) HL HN HET hi hz0 hz1 hz2 HB1 hk HEL hlt hlt HS hbb HTI EN hnv HM HM16 HC7 HC6 HB5 HT5 HW5 hJ hM
            · exact penC (u2 := u2) (u8 := u8) (u10 := u10) (u11 := u11) (u12 := u12) (u13 := u13) (u14 := u14) (u15 := u15) (u16 := u16) (u17 := u17) (u18 := u18) (u19 := u19) (u20 := u20) (u22 := u22) (u23 := u23) (u24 := u24) (u30 := u30) (u31 := u31) (u32 := u32) (u33 := u33) (u34 := u34) (u35 := u35) (u36 := u36) (u38 := u38) (u39 := u39) (u40 := u40) (u41 := u41) (u42 := u42) (u43 := u43) (u44 := u44) (u45 := u45) (u46 := u46) (u47 := u47) (u48 := u48) (u49 := u49) (u50 := u50) (u51 := u51) (u52 := u52) (u53 := u53) (u54 := u54) (u55 := u55) (u56 := u56) (u57 := u57) (u58 := u58) (u59 := u59) (u60 := u60) (u61 := u61) (u62 := u62) (u63 := u63) (u64 := u64) (u65 := u65) (u66 := u66) (u67 := u67) (u68 := u68) (u69 := u69) (u70 := u70) (u71 := u71) (u72 := u72) (u74 := u74) (u75 := u75) (u76 := u76) (u77 := u77) (u78 := u78) (u79 := u79) (u80 := u80) (u81 := u81) (u82 := u82) (u83 := u83) (u84 := u84) (u85 := u85) (u86 := u86) (u87 := u87) (u88 := u88) (u89 := u89) (u90 := u90) (u91 := u91) (u92 := u92) (u93 := u93) (u94 := u94) (u95 := u95) (u96 := u96) (u97 := u97) (u98 := u98) (u99 := u99) (u100 := u100) (u101 := u101) (u102 := u102) (u103 := u103) (u104 := u104) (u105 := u105) (u106 := u106) (u107 := u107) (u108 := u108) (u109 := u109) (u110 := u110) (u111 := u111) (u112 := u112) (u113 := u113) (u114 := u114) (u115 := u115) (u116 := u116) (u117 := u117) (u118 := u118) (u119 := u119) (u120 := u120) (u121 := u121) (u122 := u122) (u123 := u123) (u124 := u124) (u125 := u125) (u126 := u126) (u127 := u127) (u128 := u128) (u129 := u129) (u130 := u130) (u131 := u131) (u132 := u132) (u133 := u133) (u134 := u134) (u135 := u135) (u136 := u136) (u137 := u137) (u138 := u138) (u139 := u139) (u140 := u140) (u141 := u141) (u142 := u142) (u143 := u143) (u144 := u144) (u145 := u145) (u146 := u146) (u147 := u147) (u148 := u148) (u149 := u149) (u150 := u150) (u151 := u151) (u152 := u152) (u153 := u153) (u154 := u154) (u155 := u155) (u156 := u156) (u157 := u157) (u158 := u158) (u159 := u159) (u160 := u160) (u161 := u161) (u162 := u162) (u163 := u163) (u164 := u164) (u165 := u165) (u166 := u166) (u167 := u167) (u168 := u168) (u169 := u169) (u170 := u170) (u171 := u171) (u172 := u172) (u173 := u173) (u174 := u174) (u175 := u175) (u176 := u176) (u177 := u177) (u178 := u178) (u179 := u179) (u180 := u180) (u181 := u181) (u182 := u182) (u183 := u183) (u184 := u184) (u185 := u185) (u186 := u186) (u187 := u187) (u188 := u188) (u189 := u189) (u190 := u190) (u191 := u191) (u192 := u192) (u193 := u193) (u194 := u194) (u195 := u195) (u196 := u196) (u197 := u197) (u198 := u198) (u199 := u199) (u200 := u200) (u201 := u201) (u202 := u202) (u203 := u203) (u204 := u204) (u205 := u205) (u206 := u206) (u207 := u207) (w2 := w2) (wr := wr) HL HN HET hi hz0 hz1 hz2 HB1 hk HEL hlt hlt HS hbb HTI EN hnv HM HM16 HC7 HC6 HB5 HT5 HW5 hJ hM
      case rest =>
        obtain ⟨es2, HEL2, HT2, HW2, HB2⟩ := hcut
        obtain ⟨V2, C2, hv2, -⟩ := HT2.out
        obtain ⟨V4, C4, hv4, -⟩ := HW2.out
        obtain ⟨m2, hm2⟩ : ∃ m2, m2 = es2.length := ⟨_, rfl⟩
        rw [← hm2] at hv2 hv4 HEL2
        subst hv2 hv4
        have HM2 := Lib.hid hm2
        have AL := Lib.hid (all26_self V2 V4 m2 C2 C4 es2 wc (HT2.out.ents HM2.out.symm).at_ (HW2.out.ents HM2.out.symm).at_ HM2.out.symm (by have := HEL2.out; omega))
        clear hm2 HC6 HC7 HT5 HW5
        go_wp2_with fail
        refine AL.out.mono ?_
        rintro e w9 ⟨rfl, hb9⟩
        have HT9 := Lib.hid (HT2.out.below hb9)
        have HW9 := Lib.hid (HW2.out.below hb9)
        have HB9 := Lib.hid (below_trans HB2.out HB2.out.size hb9)
        have hnv := HN.out
        clear hb9 AL
        go_wp2_with fail
        go_roundw
        case rel => exact ⟨k + 1, es2, by omega, by go_num, Lib.hid (by rw [← HM2.out]; exact HEL2.out), HT9, HW9, HB9⟩
        case measure => simp [intOf]; omega
    · have hlt' : ¬ (k : Int) < n := by omega
      go_wp2_with fail
      go_ret
      exact ⟨rfl, HB.out⟩
end Go.Proofs.YtpopnlbpeboiiaaDoor
