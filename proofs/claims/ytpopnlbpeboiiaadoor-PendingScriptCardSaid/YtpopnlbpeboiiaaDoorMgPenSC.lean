/- Texts that walks stand on, one behind the other. -/
import Derived.Test.YtpopnlbpeboiiaaDoorMgSA
import Derived.Outline
import Derived.Deep.DeepCutAuto
import Derived.Deep.CutBlock
namespace Go.Proofs.YtpopnlbpeboiiaaDoor
open Go.RowKit
set_option linter.unusedVariables false
set_option linter.unusedSimpArgs false
set_option maxRecDepth 20000
attribute [local simp] putsF isV wordOf Deps Region.binds Region.wanted Act.put wantedX isB
set_option maxHeartbeats 12800000 in
theorem penC
    {w : World}
    {n c : Nat}
    {ds : List DeedP}
    (HL : Hid (ds.length = n))
    (HN : Hid (n ≤ 3518437208780))
    (HET : Hid (Etype w))
    {i0 : TypeInfo}
    (hi : Tryd.prog.info? 41 = some i0)
    (hz0 : i0.zero =
        some
          (Value.agg
            #[Value.int IntKind.u16 0, Value.int IntKind.u16 0, Value.bool false, Value.int IntKind.i64 0, Value.bool false,
              Value.bool false, Value.bool false, Value.bool false, Value.int IntKind.i64 0, Value.string { data := #[] },
              Value.int IntKind.u16 0, Value.slice none 0 0, Value.slice none 0 0, Value.slice none 0 0,
              Value.int IntKind.i64 0, Value.string { data := #[] }, Value.int IntKind.i64 0, Value.bool false,
              Value.int IntKind.i64 0]))
    (hz1 : i0.size = 19)
    (hz2 : i0.bytes = 184)
    {w1 : World}
    (HB1 : Hid (Below w.heap.size w w1))
    {wr : World}
    {u2 u8 u10 u11 u12 u13 u14 u15 u16 u17 u18 u19 u20 u22 u23 u24 u30 u31 u32 u33 u34 u35 u36 u38 u39 u40 u41 u42 u43 u44 u45 u46 u47 u48 u49 u50 u51 u52 u53 u54 u55 u56 u57 u58 u59 u60 u61 u62 u63 u64 u65 u66 u67 u68 u69 u70 u71 u72 u74 u75 u76 u77 u78 u79 u80 u81 u82 u83 u84 u85 u86 u87 u88 u89 u90 u91 u92 u93 u94 u95 u96 u97 u98 u99 u100 u101 u102 u103 u104 u105 u106 u107 u108 u109 u110 u111 u112 u113 u114 u115 u116 u117 u118 u119 u120 u121 u122 u123 u124 u125 u126 u127 u128 u129 u130 u131 u132 u133 u134 u135 u136 u137 u138 u139 u140 u141 u142 u143 u144 u145 u146 u147 u148 u149 u150 u151 u152 u153 u154 u155 u156 u157 u158 u159 u160 u161 u162 u163 u164 u165 u166 u167 u168 u169 u170 u171 u172 u173 u174 u175 u176 u177 u178 u179 u180 u181 u182 u183 u184 u185 u186 u187 u188 u189 u190 u191 u192 u193 u194 u195 u196 u197 u198 u199 u200 u201 u202 u203 u204 u205 u206 u207 : Value}
    {k : Nat}
    {es : List EntT}
    (hk : k ≤ n)
    (HEL : Hid (es.length ≤ 16))
    (hlt : k < n)
    (hlt' : ↑k < ↑n)
    {bb off : Nat}
    (HS : Hid (DeedsP w (some { block := bb, off := off }) n c ds))
    (hbb : bb < w.heap.size)
    {x1 : Int}
    {A1 : Option Addr}
    {n1 c1 : Nat}
    {l1 : List UInt8}
    {x3 x4 : Int}
    {xn : Nat}
    (HTI : Hid (-128 ≤ x4 ∧ x4 < 128))
    {e0 : Int}
    {e1 : ByteArray}
    {e2 : Int}
    {e3 : ByteArray}
    {e4 e5 : Int}
    (EN : ∀ (w : World),
        DpOk w (↑xn, x1, (A1, n1, c1, l1), x3, x4) →
          Calls Tryd.prog 5
            #[Value.agg
                #[Value.int IntKind.u8 ↑xn, Value.int IntKind.u8 x1, Value.slice A1 n1 c1, Value.int IntKind.u8 x3,
                  Value.int IntKind.i8 x4]]
            w fun e w' =>
            e =
                Ending.returned
                  (Value.agg
                    #[Value.int IntKind.u16 e0, Value.int IntKind.u16 0, Value.bool false, Value.int IntKind.i64 0,
                      Value.bool false, Value.bool false, Value.bool false, Value.bool false, Value.int IntKind.i64 0,
                      Value.string e1, Value.int IntKind.u16 e2, Value.slice none 0 0, Value.slice none 0 0,
                      Value.slice none 0 0, Value.int IntKind.i64 0, Value.string e3, Value.int IntKind.i64 e4,
                      Value.bool false, Value.int IntKind.i64 e5]) ∧
              Below w.heap.size w w')
    (hnv : n ≤ 3518437208780)
    {m : Nat}
    (HM : Hid (m = es.length))
    (HM16 : Hid (m ≤ 16))
    {w2 : World}
    {w5 : World}
    {g7 g6 : Nat}
    (HC7 : Hid
        (Cs w5 g7
          [Value.int IntKind.u16 e0, Value.int IntKind.u16 0, Value.bool false, Value.int IntKind.i64 0, Value.bool false,
            Value.bool false, Value.bool false, Value.bool false, Value.int IntKind.i64 0, Value.string e1,
            Value.int IntKind.u16 e2, Value.slice none 0 0, Value.slice none 0 0, Value.slice none 0 0,
            Value.int IntKind.i64 0, Value.string e3, Value.int IntKind.i64 e4, Value.bool false, Value.int IntKind.i64 e5]))
    (HC6 : Hid
        (Cs w5 g6
          [Value.int IntKind.u8 ↑xn, Value.int IntKind.u8 x1, Value.slice A1 n1 c1, Value.int IntKind.u8 x3,
            Value.int IntKind.i8 x4]))
    (HB5 : Hid (Below w.heap.size w w5))
    {VT : Option Addr}
    {CT : Nat}
    (HT5 : Hid (TV w5 (Value.slice VT m CT) es))
    {VW : Option Addr}
    {CW : Nat}
    (HW5 : Hid (TV w5 (Value.slice VW m CW) es))
    {Jx Kx : Act → World → Prop}
    (hJ : ∀ (a' : Act) (w' : World),
        (∃ u2 u3 u4 u8 u10 u11 u12 u13 u14 u15 u16 u17 u18 u19 u20 u22 u23 u24 u30 u31 u32 u33 u34 u35 u36 u38 u39 u40 u41
            u42 u43 u44 u45 u46 u47 u48 u49 u50 u51 u52 u53 u54 u55 u56 u57 u58 u59 u60 u61 u62 u63 u64 u65 u66 u67 u68 u69
            u70 u71 u72 u73 u74 u75 u76 u77 u78 u79 u80 u81 u82 u83 u84 u85 u86 u87 u88 u89 u90 u91 u92 u93 u94 u95 u96 u97
            u98 u99 u100 u101 u102 u103 u104 u105 u106 u107 u108 u109 u110 u111 u112 u113 u114 u115 u116 u117 u118 u119 u120
            u121 u122 u123 u124 u125 u126 u127 u128 u129 u130 u131 u132 u133 u134 u135 u136 u137 u138 u139 u140 u141 u142
            u143 u144 u145 u146 u147 u148 u149 u150 u151 u152 u153 u154 u155 u156 u157 u158 u159 u160 u161 u162 u163 u164
            u165 u166 u167 u168 u169 u170 u171 u172 u173 u174 u175 u176 u177 u178 u179 u180 u181 u182 u183 u184 u185 u186
            u187 u188 u189 u190 u191 u192 u193 u194 u195 u196 u197 u198 u199 u200 u201 u202 u203 u204 u205 u206 u207,
            (∃ es', Hid (es'.length ≤ 16) ∧ Hid (TV w' u3 es') ∧ Hid (TV w' u4 es') ∧ Hid (Below w.heap.size w w')) ∧
              a' =
                {
                  tmps :=
                    #[Value.slice (some { block := bb, off := off }) n c, undef, u2, u3, u4, undef,
                      Value.pointer (some { block := g6, off := 0 }), Value.pointer (some { block := g7, off := 0 }), u8,
                      undef, u10, u11, u12, u13, u14, u15, u16, u17, u18, u19, u20, undef, u22, u23, u24, Value.bool true,
                      Value.bool false, Value.slice (some { block := bb, off := off }) n c, Value.int IntKind.i64 ↑n,
                      Value.int IntKind.i64 ↑k, u30, u31, u32, u33, u34, u35, u36, Value.int IntKind.u8 ((4 : Nat) : Int), u38, u39, u40,
                      u41, u42, u43, u44, u45, u46, u47, u48, u49, u50, u51, u52, u53, u54, u55, u56, u57, u58, u59, u60,
                      u61, u62, u63, u64, u65, u66, u67, u68, u69, u70, u71, u72, u73, u74, u75, u76, u77, u78, u79, u80,
                      u81, u82, u83, u84, u85, u86, u87, u88, u89, u90, u91, u92, u93, u94, u95, u96, u97, u98, u99, u100,
                      u101, u102, u103, u104, u105, u106, u107, u108, u109, u110, u111, u112, u113, u114, u115, u116, u117,
                      u118, u119, u120, u121, u122, u123, u124, u125, u126, u127, u128, u129, u130, u131, u132, u133, u134,
                      u135, u136, u137, u138, u139, u140, u141, u142, u143, u144, u145, u146, u147, u148, u149, u150, u151,
                      u152, u153, u154, u155, u156, u157, u158, u159, u160, u161, u162, u163, u164, u165, u166, u167, u168,
                      u169, u170, u171, u172, u173, u174, u175, u176, u177, u178, u179, u180, u181, u182, u183, u184, u185,
                      u186, u187, u188, u189, u190, u191, u192, u193, u194, u195, u196, u197, u198, u199, u200, u201, u202,
                      u203, u204, u205, u206, u207],
                  defers := [] }) →
          Jx a' w')
    (hM : ∀ (a' : Act) (w' : World), Met Jx a' w' → Kx a' w')
    {u30 u31 u32 u33 u34 u35 u36 u41 u42 u43 u44 u45 u46 u47 u48 u49 u50 u51 u52 u53 u54 u55 u56 u57 u58 u59 u60 u61 u62 u63 u64 u65 u66 u67 u68 u69 u70 u71 u72 u74 u75 u76 u80 u81 u82 u83 u84 u85 u86 u87 u88 u89 u90 u91 u92 u93 u94 u95 u96 u97 u98 u99 u100 u101 u102 u103 u104 u105 u106 u107 u108 u109 u110 u111 u112 u113 u114 u115 u116 u117 u118 u119 u120 u121 u122 u123 u124 u125 u127 u131 u132 u133 u134 u135 u136 u137 u138 u139 u140 u141 u142 u143 u144 u145 u146 u147 u148 u149 u150 u151 u152 u153 u154 u155 u156 u157 u158 u159 u160 u161 u162 u163 u164 u165 u166 u167 u168 u169 u170 u171 u172 u173 u174 u175 u176 u177 u178 u179 u180 u181 u182 u183 u184 u185 u186 u187 u188 u189 u190 u191 u192 u193 u194 u195 u196 u197 u198 u199 u200 u201 u202 u203 u204 u205 u206 u207 : Value}
    {Q0 : Exit → Act → World → Prop} :
    Code.wp Tryd.prog penSwitch (Exit.inBlock 2 (Exit.then Kx Q0))
    {
      tmps :=
        #[Value.slice (some { block := bb, off := off }) n c, undef, u2, Value.slice VT m CT, Value.slice VW m CW,
          undef, Value.pointer (some { block := g6, off := 0 }), Value.pointer (some { block := g7, off := 0 }), u8,
          undef, u10, u11, u12, u13, u14, u15, u16, u17, u18, u19, u20, undef, u22, u23, u24, Value.bool true,
          Value.bool false, Value.slice (some { block := bb, off := off }) n c, Value.int IntKind.i64 ↑n,
          Value.int IntKind.i64 ↑k, u30, u31, u32, u33, u34, u35, u36, Value.int IntKind.u8 ((4 : Nat) : Int), u38, u39, u40, u41, u42,
          u43, u44, u45, u46, u47, u48, u49, u50, u51, u52, u53, u54, u55, u56, u57, u58, u59, u60, u61, u62, u63, u64,
          u65, u66, u67, u68, u69, u70, u71, u72, Value.bool false, u74, u75, u76, u77, u78, u79, u80, u81,
          u82, u83, u84, u85, u86, u87, u88, u89, u90, u91, u92, u93, u94, u95, u96, u97, u98, u99, u100, u101, u102,
          u103, u104, u105, u106, u107, u108, u109, u110, u111, u112, u113, u114, u115, u116, u117, u118, u119, u120,
          u121, u122, u123, u124, u125, u126, u127, u128, u129, u130, u131, u132, u133, u134, u135, u136, u137, u138,
          u139, u140, u141, u142, u143, u144, u145, u146, u147, u148, u149, u150, u151, u152, u153, u154, u155, u156,
          u157, u158, u159, u160, u161, u162, u163, u164, u165, u166, u167, u168, u169, u170, u171, u172, u173, u174,
          u175, u176, u177, u178, u179, u180, u181, u182, u183, u184, u185, u186, u187, u188, u189, u190, u191, u192,
          u193, u194, u195, u196, u197, u198, u199, u200, u201, u202, u203, u204, u205, u206, u207],
      defers := [] }
      w5 := by
  conv => enter [2]; whnf
  have hti := HTI.out
  have hwx : IntKind.i64.wrap x4 = x4 := by rw [IntKind.wrap_i64]; omega
  have HWX := Lib.hid hwx
  have H64 := Lib.hid (HC6.out.get 4 _)
  clear hti hwx
  go_wp2_with fail
  go_loopw [19, 20, 40] (fun vg vs j wx => ∃ (q : Nat), q ≤ m ∧ j = .int .i64 q ∧ Hid (OBM 19 w5.heap.size w5 vg (goneE x4 (es.take q)).length (flatE (goneE x4 (es.take q))) wx) ∧ Hid (OBM 19 w5.heap.size w5 vs (stayE x4 (es.take q)).length (flatE (stayE x4 (es.take q))) wx) ∧ Hid (∀ b, vg.ownBlock = some b → vs.ownBlock ≠ some b)) (fun _ _ j _ => m - (intOf j).toNat)
  case atStart => exact ⟨0, Nat.zero_le _, rfl, Lib.hid (by simpa [goneE, flatE] using OBM.start (sz := 19) w5), Lib.hid (by simpa [stayE, flatE] using OBM.start (sz := 19) w5), Lib.hid (fun b hb => by cases hb)⟩
  case round =>
    obtain ⟨q, hq, rfl, HG, HSY, HD⟩ := hrel
    have HBX := Lib.hid HG.out.bel
    by_cases hqm : q < m
    · have hqm' : (q : Int) < m := by omega
      have hm16 := HM16.out
      obtain ⟨y, hy⟩ : ∃ r, es[q]? = some r := ⟨_, List.getElem?_eq_getElem (by rw [← HM.out]; exact hqm)⟩
      obtain ⟨bw, ow, rfl, hbw, hcw⟩ := (HW5.out.ents HM.out.symm).at_ q y hy
      have hn1 := goneE_next x4 hy
      have hn2 := stayE_next x4 hy
      have hg1 := goneE_le x4 es q
      have hs1 := stayE_le x4 es q
      obtain ⟨f0, f1, f2, f3, f4, f5⟩ := y
      have HRG : Hid (wr.rangeAt bw (ow + q * 19) [.int .u16 f0, .int .u16 0, .bool false, .int .i64 0, .bool false, .bool false, .bool false, .bool false, .int .i64 0, .string f1, .int .u16 f2, .slice none 0 0, .slice none 0 0, .slice none 0 0, .int .i64 0, .string f3, .int .i64 f4, .bool false, .int .i64 f5]) := Lib.hid (fun j v hv => (HBX.out.cell (p := ⟨bw, ow + q * 19 + j, none⟩) hbw).trans (hcw j v hv))
      have HN1 := Lib.hid hn1
      have HN2 := Lib.hid hn2
      have HK1 := Lib.hid (Nat.le_trans hg1 (show q ≤ 16 by omega))
      have HK2 := Lib.hid (Nat.le_trans hs1 (show q ≤ 16 by omega))
      clear hn1 hn2 hg1 hs1
      generalize hL1 : goneE x4 (es.take q) = L1 at *
      generalize hL2 : stayE x4 (es.take q) = L2 at *
      clear hL1 hL2
      obtain ⟨VG, CG, rfl, -, -, -⟩ := HG.out.slice
      obtain ⟨VS, CS, rfl, -, -, -⟩ := HSY.out.slice
      have hZ := Cs.new wr #[.int .u16 0, .int .u16 0, .bool false, .int .i64 0, .bool false, .bool false, .bool false, .bool false, .int .i64 0, .string ⟨#[]⟩, .int .u16 0, .slice none 0 0, .slice none 0 0, .slice none 0 0, .int .i64 0, .string ⟨#[]⟩, .int .i64 0, .bool false, .int .i64 0] 41 [.int .u16 0, .int .u16 0, .bool false, .int .i64 0, .bool false, .bool false, .bool false, .bool false, .int .i64 0, .string ⟨#[]⟩, .int .u16 0, .slice none 0 0, .slice none 0 0, .slice none 0 0, .int .i64 0, .string ⟨#[]⟩, .int .i64 0, .bool false, .int .i64 0]
      have HTH := Lib.hid (hZ.there 19 rfl)
      have hM := hZ.mid [.int .u16 f0, .int .u16 0, .bool false, .int .i64 0, .bool false, .bool false, .bool false, .bool false, .int .i64 0, .string f1, .int .u16 f2, .slice none 0 0, .slice none 0 0, .slice none 0 0, .int .i64 0, .string f3, .int .i64 f4, .bool false, .int .i64 f5] rfl
      have hbZ : Below wr.heap.size wr ((wr.alloc (.cells #[.int .u16 0, .int .u16 0, .bool false, .int .i64 0, .bool false, .bool false, .bool false, .bool false, .int .i64 0, .string ⟨#[]⟩, .int .u16 0, .slice none 0 0, .slice none 0 0, .slice none 0 0, .int .i64 0, .string ⟨#[]⟩, .int .i64 0, .bool false, .int .i64 0] 41)).setCells wr.heap.size 0 [.int .u16 f0, .int .u16 0, .bool false, .int .i64 0, .bool false, .bool false, .bool false, .bool false, .int .i64 0, .string f1, .int .u16 f2, .slice none 0 0, .slice none 0 0, .slice none 0 0, .int .i64 0, .string f3, .int .i64 f4, .bool false, .int .i64 f5]) := below_setCells' (Nat.le_refl _) _ 0 ((Below.refl _ _).alloc (Nat.le_refl _) _)
      have k64 := ((HC6.out.below HBX.out).below hbZ).get 4 _
      have H2 := Lib.hid (And.intro k64 (And.intro hM hbZ))
      clear hy hbw hcw hZ hM hbZ k64
      go_upto_region 14 with (first
        | refine wpList_load_mid rfl 41 _ rfl bw (ow + q * 19) rfl _ _ HRG.out Tryd.underlying41 rfl (by kernel_rfl) ?_
        | refine wpList_store_mid rfl 41 _ _ rfl wr.heap.size 0 #[.int .u16 f0, .int .u16 0, .bool false, .int .i64 0, .bool false, .bool false, .bool false, .bool false, .int .i64 0, .string f1, .int .u16 f2, .slice none 0 0, .slice none 0 0, .slice none 0 0, .int .i64 0, .string f3, .int .i64 f4, .bool false, .int .i64 f5] rfl rfl HTH.out (by kernel_rfl) (by simp [Value.oneCell']) ?_)
      obtain ⟨k64, hM, hbZ⟩ := H2.out
      generalize (wr.alloc (.cells #[.int .u16 0, .int .u16 0, .bool false, .int .i64 0, .bool false, .bool false, .bool false, .bool false, .int .i64 0, .string ⟨#[]⟩, .int .u16 0, .slice none 0 0, .slice none 0 0, .slice none 0 0, .int .i64 0, .string ⟨#[]⟩, .int .i64 0, .bool false, .int .i64 0] 41)).setCells wr.heap.size 0 [.int .u16 f0, .int .u16 0, .bool false, .int .i64 0, .bool false, .bool false, .bool false, .bool false, .int .i64 0, .string f1, .int .u16 f2, .slice none 0 0, .slice none 0 0, .slice none 0 0, .int .i64 0, .string f3, .int .i64 f4, .bool false, .int .i64 f5] = w6 at *
      obtain ⟨gx, hgx⟩ : ∃ g, g = wr.heap.size := ⟨_, rfl⟩
      rw [← hgx] at hM ⊢
      have k18 := hM.get 18 _
      have HRX := Lib.hid hM.range
      have HG6 := Lib.hid (HG.out.keep hbZ (Nat.le_refl _))
      have HS6 := Lib.hid (HSY.out.keep hbZ (Nat.le_refl _))
      have hwx := HWX.out
      have HMX := Lib.hid hM
      clear hM hbZ hgx H2 HTH HRG
      by_cases hle : f5 ≤ x4
      · have hp : decide (f5 ≤ x4) = true := decide_eq_true hle
        have HP := Lib.hid hp
        clear hp
        have ho := Lib.hid (HG6.out.alloc (.cells #[.int .u16 f0, .int .u16 0, .bool false, .int .i64 0, .bool false, .bool false, .bool false, .bool false, .int .i64 0, .string f1, .int .u16 f2, .slice none 0 0, .slice none 0 0, .slice none 0 0, .int .i64 0, .string f3, .int .i64 f4, .bool false, .int .i64 f5] 41))
        have hS : Hid (Src Tryd.prog 19 24 (.slice (some ⟨w6.heap.size, 0, none⟩) 1 1) 1 [.int .u16 f0, .int .u16 0, .bool false, .int .i64 0, .bool false, .bool false, .bool false, .bool false, .int .i64 0, .string f1, .int .u16 f2, .slice none 0 0, .slice none 0 0, .slice none 0 0, .int .i64 0, .string f3, .int .i64 f4, .bool false, .int .i64 f5] (w6.alloc (.cells #[.int .u16 f0, .int .u16 0, .bool false, .int .i64 0, .bool false, .bool false, .bool false, .bool false, .int .i64 0, .string f1, .int .u16 f2, .slice none 0 0, .slice none 0 0, .slice none 0 0, .int .i64 0, .string f3, .int .i64 f4, .bool false, .int .i64 f5] 41))) := by
          refine Lib.hid (Src.ofSlice _ Tryd.underlying24 _ 1 1 _ rfl ?_ (entCells_one (f0, f1, f2, f3, f4, f5)))
          exact news_at w6 #[.int .u16 f0, .int .u16 0, .bool false, .int .i64 0, .bool false, .bool false, .bool false, .bool false, .int .i64 0, .string f1, .int .u16 f2, .slice none 0 0, .slice none 0 0, .slice none 0 0, .int .i64 0, .string f3, .int .i64 f4, .bool false, .int .i64 f5] _
        have HS7 := Lib.hid (HS6.out.alloc (.cells #[.int .u16 f0, .int .u16 0, .bool false, .int .i64 0, .bool false, .bool false, .bool false, .bool false, .int .i64 0, .string f1, .int .u16 f2, .slice none 0 0, .slice none 0 0, .slice none 0 0, .int .i64 0, .string f3, .int .i64 f4, .bool false, .int .i64 f5] 41))
        go_wp2_with (first | (at_builtin; go_loud (refine wpList_append_obm rfl _ _ 24 24 rfl 41 i0 _ 184 Tryd.underlying24 hi hz0 hz1 hz2 rfl ho.out rfl rfl hS.out rfl (by have := HK1.out; unfold maxLen; omega) (by have := HK1.out; omega) ?_)) | refine wpList_load_mid rfl 41 _ rfl gx 0 rfl _ _ HRX.out Tryd.underlying41 rfl (by kernel_rfl) ?_)
        intro v' w' p1 p2 p3 p4
        have P1 := Lib.hid p1
        have P2 := Lib.hid (HS7.out.block p1.bel (by simpa using p2) (fun b hb => p3 b (by have := (HS7.out.lt b hb).2; simpa using this) (fun hh => HD.out b hh.symm hb)))
        have P3 := Lib.hid (show ∀ b, v'.ownBlock = some b → (Value.slice VS L2.length CS).ownBlock ≠ some b by
          intro b hb
          rcases p4 with hh | hh
          · rw [hh] at hb; exact HD.out b hb
          · rw [hh] at hb; injection hb with hb
            intro h2
            have := (HS7.out.lt b h2).2
            simp at this
            try simp at hb
            omega)
        clear p1 p2 p3 p4 ho hS k18 k64 hle hwx
        go_wp2_with fail
        go_round
        case rel =>
          refine ⟨q + 1, by omega, by go_num, ?_, ?_, P3⟩
          · rw [HN1.out]; simp only [HP.out, if_true, List.length_append, flatE_snoc]; exact P1
          · rw [HN2.out]; simp only [HP.out, Bool.not_true, Bool.false_eq_true, if_false, List.append_nil]; exact P2
        case measure => simp [intOf]; omega
      · have hp : decide (f5 ≤ x4) = false := decide_eq_false hle
        have HP := Lib.hid hp
        clear hp
        have ho := Lib.hid (HS6.out.alloc (.cells #[.int .u16 f0, .int .u16 0, .bool false, .int .i64 0, .bool false, .bool false, .bool false, .bool false, .int .i64 0, .string f1, .int .u16 f2, .slice none 0 0, .slice none 0 0, .slice none 0 0, .int .i64 0, .string f3, .int .i64 f4, .bool false, .int .i64 f5] 41))
        have hS : Hid (Src Tryd.prog 19 24 (.slice (some ⟨w6.heap.size, 0, none⟩) 1 1) 1 [.int .u16 f0, .int .u16 0, .bool false, .int .i64 0, .bool false, .bool false, .bool false, .bool false, .int .i64 0, .string f1, .int .u16 f2, .slice none 0 0, .slice none 0 0, .slice none 0 0, .int .i64 0, .string f3, .int .i64 f4, .bool false, .int .i64 f5] (w6.alloc (.cells #[.int .u16 f0, .int .u16 0, .bool false, .int .i64 0, .bool false, .bool false, .bool false, .bool false, .int .i64 0, .string f1, .int .u16 f2, .slice none 0 0, .slice none 0 0, .slice none 0 0, .int .i64 0, .string f3, .int .i64 f4, .bool false, .int .i64 f5] 41))) := by
          refine Lib.hid (Src.ofSlice _ Tryd.underlying24 _ 1 1 _ rfl ?_ (entCells_one (f0, f1, f2, f3, f4, f5)))
          exact news_at w6 #[.int .u16 f0, .int .u16 0, .bool false, .int .i64 0, .bool false, .bool false, .bool false, .bool false, .int .i64 0, .string f1, .int .u16 f2, .slice none 0 0, .slice none 0 0, .slice none 0 0, .int .i64 0, .string f3, .int .i64 f4, .bool false, .int .i64 f5] _
        have HG7 := Lib.hid (HG6.out.alloc (.cells #[.int .u16 f0, .int .u16 0, .bool false, .int .i64 0, .bool false, .bool false, .bool false, .bool false, .int .i64 0, .string f1, .int .u16 f2, .slice none 0 0, .slice none 0 0, .slice none 0 0, .int .i64 0, .string f3, .int .i64 f4, .bool false, .int .i64 f5] 41))
        go_wp2_with (first | (at_builtin; go_loud (refine wpList_append_obm rfl _ _ 24 24 rfl 41 i0 _ 184 Tryd.underlying24 hi hz0 hz1 hz2 rfl ho.out rfl rfl hS.out rfl (by have := HK2.out; unfold maxLen; omega) (by have := HK2.out; omega) ?_)) | refine wpList_load_mid rfl 41 _ rfl gx 0 rfl _ _ HRX.out Tryd.underlying41 rfl (by kernel_rfl) ?_)
        intro v' w' p1 p2 p3 p4
        have P1 := Lib.hid p1
        have P2 := Lib.hid (HG7.out.block p1.bel (by simpa using p2) (fun b hb => p3 b (by have := (HG7.out.lt b hb).2; simpa using this) (fun hh => HD.out b hb hh.symm)))
        have P3 := Lib.hid (show ∀ b, (Value.slice VG L1.length CG).ownBlock = some b → v'.ownBlock ≠ some b by
          intro b h2
          rcases p4 with hh | hh
          · rw [hh]; exact HD.out b h2
          · rw [hh]
            intro hb
            injection hb with hb
            have := (HG7.out.lt b h2).2
            simp at this
            try simp at hb
            omega)
        clear p1 p2 p3 p4 ho hS k18 k64 hle hwx
        go_wp2_with fail
        go_round
        case rel =>
          refine ⟨q + 1, by omega, by go_num, ?_, ?_, P3⟩
          · rw [HN1.out]; simp only [HP.out, Bool.false_eq_true, if_false, List.append_nil]; exact P2
          · rw [HN2.out]; simp only [HP.out, Bool.not_false, if_true, List.length_append, flatE_snoc]; exact P1
        case measure => simp [intOf]; omega
    · have hqm' : ¬ (q : Int) < m := by omega
      obtain rfl : q = m := by omega
      have hm16 := HM16.out
      have htk : es.take q = es := List.take_of_length_le (by rw [← HM.out]; exact Nat.le_refl _)
      rw [htk] at HG HSY
      have EX := expire_any VT q CT es x4 wr ((HT5.out.below HBX.out).ents HM.out.symm) (by omega)
      have hlg : (goneE x4 es).length ≤ 16 := Nat.le_trans (List.length_filter_le _ _) (by rw [← HM.out]; exact hm16)
      have hls : (stayE x4 es).length ≤ 16 := Nat.le_trans (List.length_filter_le _ _) (by rw [← HM.out]; exact hm16)
      have EX : Calls Tryd.prog 10 #[.slice VT q CT, .int .i64 x4] wr fun r w' => ∃ v1 v2, r = .returned (.tuple #[v1, v2]) ∧ OBM 19 wr.heap.size wr v1 (goneE x4 es).length (flatE (goneE x4 es)) w' ∧ OBM 19 wr.heap.size wr v2 (stayE x4 es).length (flatE (stayE x4 es)) w' := EX
      have HEX := Lib.hid EX
      obtain ⟨m1, hm1⟩ : ∃ l, l = (goneE x4 es).length := ⟨_, rfl⟩
      obtain ⟨m2, hm2⟩ : ∃ l, l = (stayE x4 es).length := ⟨_, rfl⟩
      rw [← hm1] at HG HEX hlg
      rw [← hm2] at HSY HEX hls
      have HM1 := Lib.hid hm1
      have HM2 := Lib.hid hm2
      have HLG := Lib.hid (show m1 ≤ 1048576 by omega)
      have HLS := Lib.hid hls
      have HLS2 := Lib.hid (show m2 ≤ 1048576 by omega)
      obtain ⟨VG, CG, rfl, -, -, -⟩ := HG.out.slice
      obtain ⟨VS, CS, rfl, -, -, -⟩ := HSY.out.slice
      have k64 := (HC6.out.below HBX.out).get 4 _
      have hwx := HWX.out
      clear htk hq EX hlg hls hm1 hm2
      go_wp2_with fail
      refine HEX.out.mono ?_
      rintro e w7 ⟨v1, v2, rfl, ho1, ho2⟩
      all_goals (try dsimp only)
      obtain ⟨V1, C1, rfl, -, -, -⟩ := ho1.slice
      obtain ⟨V2, C2, rfl, -, -, -⟩ := ho2.slice
      have HB7 := Lib.hid (below_trans HBX.out HBX.out.size ho1.bel)
      have HT1 := Lib.hid (TV.of ho1 HM1.out.symm)
      have HT2 := Lib.hid (TV.of ho2 HM2.out.symm)
      have HTG := Lib.hid (TV.of (HG.out.keep ho1.bel (Nat.le_refl _)) HM1.out.symm)
      have HTS := Lib.hid (TV.of (HSY.out.keep ho1.bel (Nat.le_refl _)) HM2.out.symm)
      have AL := Lib.hid (all26_self V1 VG m1 C1 CG (goneE x4 es) w7 (HT1.out.ents HM1.out.symm).at_ (HTG.out.ents HM1.out.symm).at_ HM1.out.symm HLG.out)
      clear ho1 ho2 k64 hwx
      go_wp2_with fail
      refine AL.out.mono ?_
      rintro e w8 ⟨rfl, hb8⟩
      all_goals (try dsimp only)
      have HB8 := Lib.hid (below_trans HB7.out HB7.out.size hb8)
      have HT8 := Lib.hid (HT2.out.below hb8)
      have HW8 := Lib.hid (HTS.out.below hb8)
      clear hb8 AL
      go_wp2_with fail
      go_meet
      exact ⟨stayE x4 es, Lib.hid (by rw [← HM2.out]; exact HLS.out), HT8, HW8, Lib.hid (below_trans HB5.out HB5.out.size HB8.out)⟩
end Go.Proofs.YtpopnlbpeboiiaaDoor
