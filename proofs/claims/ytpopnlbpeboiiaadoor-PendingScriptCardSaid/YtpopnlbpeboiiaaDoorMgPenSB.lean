/- Texts that walks stand on, one behind the other. -/
import Derived.Test.YtpopnlbpeboiiaaDoorMgSA
import Derived.Outline
import Derived.Deep.DeepCutAuto
import Derived.Deep.CutBlock
namespace Go.Proofs.YtpopnlbpeboiiaaDoor
open Go.RowKit
set_option linter.unusedVariables false
set_option linter.unusedSimpArgs false
set_option maxRecDepth 20000
attribute [local simp] putsF isV wordOf Deps Region.binds Region.wanted Act.put wantedX isB
set_option maxHeartbeats 12800000 in
theorem penB
    {w : World}
    {n c : Nat}
    {ds : List DeedP}
    (HL : Hid (ds.length = n))
    (HN : Hid (n ≤ 3518437208780))
    (HET : Hid (Etype w))
    {i0 : TypeInfo}
    (hi : Tryd.prog.info? 41 = some i0)
    (hz0 : i0.zero =
        some
          (Value.agg
            #[Value.int IntKind.u16 0, Value.int IntKind.u16 0, Value.bool false, Value.int IntKind.i64 0, Value.bool false,
              Value.bool false, Value.bool false, Value.bool false, Value.int IntKind.i64 0, Value.string { data := #[] },
              Value.int IntKind.u16 0, Value.slice none 0 0, Value.slice none 0 0, Value.slice none 0 0,
              Value.int IntKind.i64 0, Value.string { data := #[] }, Value.int IntKind.i64 0, Value.bool false,
              Value.int IntKind.i64 0]))
    (hz1 : i0.size = 19)
    (hz2 : i0.bytes = 184)
    {w1 : World}
    (HB1 : Hid (Below w.heap.size w w1))
    {wr : World}
    {u2 u8 u10 u11 u12 u13 u14 u15 u16 u17 u18 u19 u20 u22 u23 u24 u30 u31 u32 u33 u34 u35 u36 u38 u39 u40 u41 u42 u43 u44 u45 u46 u47 u48 u49 u50 u51 u52 u53 u54 u55 u56 u57 u58 u59 u60 u61 u62 u63 u64 u65 u66 u67 u68 u69 u70 u71 u72 u74 u75 u76 u77 u78 u79 u80 u81 u82 u83 u84 u85 u86 u87 u88 u89 u90 u91 u92 u93 u94 u95 u96 u97 u98 u99 u100 u101 u102 u103 u104 u105 u106 u107 u108 u109 u110 u111 u112 u113 u114 u115 u116 u117 u118 u119 u120 u121 u122 u123 u124 u125 u126 u127 u128 u129 u130 u131 u132 u133 u134 u135 u136 u137 u138 u139 u140 u141 u142 u143 u144 u145 u146 u147 u148 u149 u150 u151 u152 u153 u154 u155 u156 u157 u158 u159 u160 u161 u162 u163 u164 u165 u166 u167 u168 u169 u170 u171 u172 u173 u174 u175 u176 u177 u178 u179 u180 u181 u182 u183 u184 u185 u186 u187 u188 u189 u190 u191 u192 u193 u194 u195 u196 u197 u198 u199 u200 u201 u202 u203 u204 u205 u206 u207 : Value}
    {k : Nat}
    {es : List EntT}
    (hk : k ≤ n)
    (HEL : Hid (es.length ≤ 16))
    (hlt : k < n)
    (hlt' : ↑k < ↑n)
    {bb off : Nat}
    (HS : Hid (DeedsP w (some { block := bb, off := off }) n c ds))
    (hbb : bb < w.heap.size)
    {x1 : Int}
    {A1 : Option Addr}
    {n1 c1 : Nat}
    {l1 : List UInt8}
    {x3 x4 : Int}
    {xn : Nat}
    (HTI : Hid (-128 ≤ x4 ∧ x4 < 128))
    {e0 : Int}
    {e1 : ByteArray}
    {e2 : Int}
    {e3 : ByteArray}
    {e4 e5 : Int}
    (EN : ∀ (w : World),
        DpOk w (↑xn, x1, (A1, n1, c1, l1), x3, x4) →
          Calls Tryd.prog 5
            #[Value.agg
                #[Value.int IntKind.u8 ↑xn, Value.int IntKind.u8 x1, Value.slice A1 n1 c1, Value.int IntKind.u8 x3,
                  Value.int IntKind.i8 x4]]
            w fun e w' =>
            e =
                Ending.returned
                  (Value.agg
                    #[Value.int IntKind.u16 e0, Value.int IntKind.u16 0, Value.bool false, Value.int IntKind.i64 0,
                      Value.bool false, Value.bool false, Value.bool false, Value.bool false, Value.int IntKind.i64 0,
                      Value.string e1, Value.int IntKind.u16 e2, Value.slice none 0 0, Value.slice none 0 0,
                      Value.slice none 0 0, Value.int IntKind.i64 0, Value.string e3, Value.int IntKind.i64 e4,
                      Value.bool false, Value.int IntKind.i64 e5]) ∧
              Below w.heap.size w w')
    (hnv : n ≤ 3518437208780)
    {m : Nat}
    (HM : Hid (m = es.length))
    (HM16 : Hid (m ≤ 16))
    {w2 : World}
    {w5 : World}
    {g7 g6 : Nat}
    (HC7 : Hid
        (Cs w5 g7
          [Value.int IntKind.u16 e0, Value.int IntKind.u16 0, Value.bool false, Value.int IntKind.i64 0, Value.bool false,
            Value.bool false, Value.bool false, Value.bool false, Value.int IntKind.i64 0, Value.string e1,
            Value.int IntKind.u16 e2, Value.slice none 0 0, Value.slice none 0 0, Value.slice none 0 0,
            Value.int IntKind.i64 0, Value.string e3, Value.int IntKind.i64 e4, Value.bool false, Value.int IntKind.i64 e5]))
    (HC6 : Hid
        (Cs w5 g6
          [Value.int IntKind.u8 ↑xn, Value.int IntKind.u8 x1, Value.slice A1 n1 c1, Value.int IntKind.u8 x3,
            Value.int IntKind.i8 x4]))
    (HB5 : Hid (Below w.heap.size w w5))
    {VT : Option Addr}
    {CT : Nat}
    (HT5 : Hid (TV w5 (Value.slice VT m CT) es))
    {VW : Option Addr}
    {CW : Nat}
    (HW5 : Hid (TV w5 (Value.slice VW m CW) es))
    {Jx Kx : Act → World → Prop}
    (hJ : ∀ (a' : Act) (w' : World),
        (∃ u2 u3 u4 u8 u10 u11 u12 u13 u14 u15 u16 u17 u18 u19 u20 u22 u23 u24 u30 u31 u32 u33 u34 u35 u36 u38 u39 u40 u41
            u42 u43 u44 u45 u46 u47 u48 u49 u50 u51 u52 u53 u54 u55 u56 u57 u58 u59 u60 u61 u62 u63 u64 u65 u66 u67 u68 u69
            u70 u71 u72 u73 u74 u75 u76 u77 u78 u79 u80 u81 u82 u83 u84 u85 u86 u87 u88 u89 u90 u91 u92 u93 u94 u95 u96 u97
            u98 u99 u100 u101 u102 u103 u104 u105 u106 u107 u108 u109 u110 u111 u112 u113 u114 u115 u116 u117 u118 u119 u120
            u121 u122 u123 u124 u125 u126 u127 u128 u129 u130 u131 u132 u133 u134 u135 u136 u137 u138 u139 u140 u141 u142
            u143 u144 u145 u146 u147 u148 u149 u150 u151 u152 u153 u154 u155 u156 u157 u158 u159 u160 u161 u162 u163 u164
            u165 u166 u167 u168 u169 u170 u171 u172 u173 u174 u175 u176 u177 u178 u179 u180 u181 u182 u183 u184 u185 u186
            u187 u188 u189 u190 u191 u192 u193 u194 u195 u196 u197 u198 u199 u200 u201 u202 u203 u204 u205 u206 u207,
            (∃ es', Hid (es'.length ≤ 16) ∧ Hid (TV w' u3 es') ∧ Hid (TV w' u4 es') ∧ Hid (Below w.heap.size w w')) ∧
              a' =
                {
                  tmps :=
                    #[Value.slice (some { block := bb, off := off }) n c, undef, u2, u3, u4, undef,
                      Value.pointer (some { block := g6, off := 0 }), Value.pointer (some { block := g7, off := 0 }), u8,
                      undef, u10, u11, u12, u13, u14, u15, u16, u17, u18, u19, u20, undef, u22, u23, u24, Value.bool true,
                      Value.bool false, Value.slice (some { block := bb, off := off }) n c, Value.int IntKind.i64 ↑n,
                      Value.int IntKind.i64 ↑k, u30, u31, u32, u33, u34, u35, u36, Value.int IntKind.u8 ((3 : Nat) : Int), u38, u39, u40,
                      u41, u42, u43, u44, u45, u46, u47, u48, u49, u50, u51, u52, u53, u54, u55, u56, u57, u58, u59, u60,
                      u61, u62, u63, u64, u65, u66, u67, u68, u69, u70, u71, u72, u73, u74, u75, u76, u77, u78, u79, u80,
                      u81, u82, u83, u84, u85, u86, u87, u88, u89, u90, u91, u92, u93, u94, u95, u96, u97, u98, u99, u100,
                      u101, u102, u103, u104, u105, u106, u107, u108, u109, u110, u111, u112, u113, u114, u115, u116, u117,
                      u118, u119, u120, u121, u122, u123, u124, u125, u126, u127, u128, u129, u130, u131, u132, u133, u134,
                      u135, u136, u137, u138, u139, u140, u141, u142, u143, u144, u145, u146, u147, u148, u149, u150, u151,
                      u152, u153, u154, u155, u156, u157, u158, u159, u160, u161, u162, u163, u164, u165, u166, u167, u168,
                      u169, u170, u171, u172, u173, u174, u175, u176, u177, u178, u179, u180, u181, u182, u183, u184, u185,
                      u186, u187, u188, u189, u190, u191, u192, u193, u194, u195, u196, u197, u198, u199, u200, u201, u202,
                      u203, u204, u205, u206, u207],
                  defers := [] }) →
          Jx a' w')
    (hM : ∀ (a' : Act) (w' : World), Met Jx a' w' → Kx a' w')
    {u30 u31 u32 u33 u34 u35 u36 u41 u42 u43 u44 u45 u46 u47 u48 u49 u50 u51 u52 u53 u54 u55 u56 u57 u58 u59 u60 u61 u62 u63 u64 u65 u66 u67 u68 u69 u70 u71 u72 u74 u75 u76 u80 u81 u82 u83 u84 u85 u86 u87 u88 u89 u90 u91 u92 u93 u94 u95 u96 u97 u98 u99 u100 u101 u102 u103 u104 u105 u106 u107 u108 u109 u110 u111 u112 u113 u114 u115 u116 u117 u118 u119 u120 u121 u122 u123 u124 u125 u127 u131 u132 u133 u134 u135 u136 u137 u138 u139 u140 u141 u142 u143 u144 u145 u146 u147 u148 u149 u150 u151 u152 u153 u154 u155 u156 u157 u158 u159 u160 u161 u162 u163 u164 u165 u166 u167 u168 u169 u170 u171 u172 u173 u174 u175 u176 u177 u178 u179 u180 u181 u182 u183 u184 u185 u186 u187 u188 u189 u190 u191 u192 u193 u194 u195 u196 u197 u198 u199 u200 u201 u202 u203 u204 u205 u206 u207 : Value}
    {Q0 : Exit → Act → World → Prop} :
    Code.wp Tryd.prog penSwitch (Exit.inBlock 2 (Exit.then Kx Q0))
    {
      tmps :=
        #[Value.slice (some { block := bb, off := off }) n c, undef, u2, Value.slice VT m CT, Value.slice VW m CW,
          undef, Value.pointer (some { block := g6, off := 0 }), Value.pointer (some { block := g7, off := 0 }), u8,
          undef, u10, u11, u12, u13, u14, u15, u16, u17, u18, u19, u20, undef, u22, u23, u24, Value.bool true,
          Value.bool false, Value.slice (some { block := bb, off := off }) n c, Value.int IntKind.i64 ↑n,
          Value.int IntKind.i64 ↑k, u30, u31, u32, u33, u34, u35, u36, Value.int IntKind.u8 ((3 : Nat) : Int), u38, u39, u40, u41, u42,
          u43, u44, u45, u46, u47, u48, u49, u50, u51, u52, u53, u54, u55, u56, u57, u58, u59, u60, u61, u62, u63, u64,
          u65, u66, u67, u68, u69, u70, u71, u72, Value.bool false, u74, u75, u76, u77, u78, u79, u80, u81,
          u82, u83, u84, u85, u86, u87, u88, u89, u90, u91, u92, u93, u94, u95, u96, u97, u98, u99, u100, u101, u102,
          u103, u104, u105, u106, u107, u108, u109, u110, u111, u112, u113, u114, u115, u116, u117, u118, u119, u120,
          u121, u122, u123, u124, u125, u126, u127, u128, u129, u130, u131, u132, u133, u134, u135, u136, u137, u138,
          u139, u140, u141, u142, u143, u144, u145, u146, u147, u148, u149, u150, u151, u152, u153, u154, u155, u156,
          u157, u158, u159, u160, u161, u162, u163, u164, u165, u166, u167, u168, u169, u170, u171, u172, u173, u174,
          u175, u176, u177, u178, u179, u180, u181, u182, u183, u184, u185, u186, u187, u188, u189, u190, u191, u192,
          u193, u194, u195, u196, u197, u198, u199, u200, u201, u202, u203, u204, u205, u206, u207],
      defers := [] }
      w5 := by
  conv => enter [2]; whnf
  go_wp2_with fail
  go_loopw [13, 130] (fun pv j wx => ∃ (q : Nat) (pi : Int), q ≤ m ∧ j = .int .i64 q ∧ pv = .int .i64 pi ∧ Hid (AtOf (hitE e0 e1 e2) es q pi) ∧ Hid (Below w5.heap.size w5 wx)) (fun _ j _ => m - (intOf j).toNat)
  case atStart => exact ⟨0, -1, Nat.zero_le _, rfl, rfl, Lib.hid (.inl ⟨rfl, by simp⟩), Lib.hid (Below.refl _ _)⟩
  case round =>
    obtain ⟨q, pi, hq, rfl, rfl, HAT, HBX⟩ := hrel
    by_cases hqm : q < m
    · have hqm' : (q : Int) < m := by omega
      have hm16 := HM16.out
      obtain ⟨y, hy⟩ : ∃ r, es[q]? = some r := ⟨_, List.getElem?_eq_getElem (by rw [← HM.out]; exact hqm)⟩
      obtain ⟨bw, ow, rfl, hbw, hcw⟩ := (HW5.out.ents HM.out.symm).at_ q y hy
      have hnx := HAT.out.next hy
      obtain ⟨f0, f1, f2, f3, f4, f5⟩ := y
      have HNX := Lib.hid hnx
      have QE := fun w => q_eql f1 e1 f2 e2 w
      have HRG : Hid (wr.rangeAt bw (ow + q * 19) [.int .u16 f0, .int .u16 0, .bool false, .int .i64 0, .bool false, .bool false, .bool false, .bool false, .int .i64 0, .string f1, .int .u16 f2, .slice none 0 0, .slice none 0 0, .slice none 0 0, .int .i64 0, .string f3, .int .i64 f4, .bool false, .int .i64 f5]) := Lib.hid (fun j v hv => (HBX.out.cell (p := ⟨bw, ow + q * 19 + j, none⟩) hbw).trans (hcw j v hv))
      have hZ := Cs.new wr #[.int .u16 0, .int .u16 0, .bool false, .int .i64 0, .bool false, .bool false, .bool false, .bool false, .int .i64 0, .string ⟨#[]⟩, .int .u16 0, .slice none 0 0, .slice none 0 0, .slice none 0 0, .int .i64 0, .string ⟨#[]⟩, .int .i64 0, .bool false, .int .i64 0] 41 [.int .u16 0, .int .u16 0, .bool false, .int .i64 0, .bool false, .bool false, .bool false, .bool false, .int .i64 0, .string ⟨#[]⟩, .int .u16 0, .slice none 0 0, .slice none 0 0, .slice none 0 0, .int .i64 0, .string ⟨#[]⟩, .int .i64 0, .bool false, .int .i64 0]
      have HTH := Lib.hid (hZ.there 19 rfl)
      have hM := hZ.mid [.int .u16 f0, .int .u16 0, .bool false, .int .i64 0, .bool false, .bool false, .bool false, .bool false, .int .i64 0, .string f1, .int .u16 f2, .slice none 0 0, .slice none 0 0, .slice none 0 0, .int .i64 0, .string f3, .int .i64 f4, .bool false, .int .i64 f5] rfl
      have hbZ : Below wr.heap.size wr ((wr.alloc (.cells #[.int .u16 0, .int .u16 0, .bool false, .int .i64 0, .bool false, .bool false, .bool false, .bool false, .int .i64 0, .string ⟨#[]⟩, .int .u16 0, .slice none 0 0, .slice none 0 0, .slice none 0 0, .int .i64 0, .string ⟨#[]⟩, .int .i64 0, .bool false, .int .i64 0] 41)).setCells wr.heap.size 0 [.int .u16 f0, .int .u16 0, .bool false, .int .i64 0, .bool false, .bool false, .bool false, .bool false, .int .i64 0, .string f1, .int .u16 f2, .slice none 0 0, .slice none 0 0, .slice none 0 0, .int .i64 0, .string f3, .int .i64 f4, .bool false, .int .i64 f5]) := below_setCells' (Nat.le_refl _) _ 0 ((Below.refl _ _).alloc (Nat.le_refl _) _)
      have hE7 := (HC7.out.below HBX.out).below hbZ
      have HBZ := Lib.hid (below_trans HBX.out HBX.out.size hbZ)
      have H2 := Lib.hid (And.intro hE7 hM)
      clear hy hbw hcw hnx hZ hM hbZ hE7
      go_upto_region 44 with (first
        | refine wpList_load_mid rfl 41 _ rfl bw (ow + q * 19) rfl _ _ HRG.out Tryd.underlying41 rfl (by kernel_rfl) ?_
        | refine wpList_store_mid rfl 41 _ _ rfl wr.heap.size 0 #[.int .u16 f0, .int .u16 0, .bool false, .int .i64 0, .bool false, .bool false, .bool false, .bool false, .int .i64 0, .string f1, .int .u16 f2, .slice none 0 0, .slice none 0 0, .slice none 0 0, .int .i64 0, .string f3, .int .i64 f4, .bool false, .int .i64 f5] rfl rfl HTH.out (by kernel_rfl) (by simp [Value.oneCell']) ?_)
      obtain ⟨hE7, hM⟩ := H2.out
      generalize (wr.alloc (.cells #[.int .u16 0, .int .u16 0, .bool false, .int .i64 0, .bool false, .bool false, .bool false, .bool false, .int .i64 0, .string ⟨#[]⟩, .int .u16 0, .slice none 0 0, .slice none 0 0, .slice none 0 0, .int .i64 0, .string ⟨#[]⟩, .int .i64 0, .bool false, .int .i64 0] 41)).setCells wr.heap.size 0 [.int .u16 f0, .int .u16 0, .bool false, .int .i64 0, .bool false, .bool false, .bool false, .bool false, .int .i64 0, .string f1, .int .u16 f2, .slice none 0 0, .slice none 0 0, .slice none 0 0, .int .i64 0, .string f3, .int .i64 f4, .bool false, .int .i64 f5] = w6 at *
      have k7 := hE7.get 0 _
      have k79 := hE7.get 9 _
      have k710 := hE7.get 10 _
      have k0 := hM.get 0 _
      have k09 := hM.get 9 _
      have k010 := hM.get 10 _
      clear hE7 hM
      cases hff : (f0 == e0) with
      | false =>
        have HF := Lib.hid (show hitE e0 e1 e2 (f0, f1, f2, f3, f4, f5) = false by unfold hitE; simp only [hff, Bool.false_and])
        go_wp2_with fail
        go_round
        case rel => exact ⟨q + 1, pi, by omega, by go_num, rfl, Lib.hid (HNX.out.1 HF.out), HBZ⟩
        case measure => simp [intOf]; omega
      | true =>
        cases hs : (f1.toList == e1.toList && f2 == e2) with
        | false =>
          rw [hs] at QE
          have HF := Lib.hid (show hitE e0 e1 e2 (f0, f1, f2, f3, f4, f5) = false by unfold hitE; simp only [hff, hs, Bool.and_false])
          go_wp2_with fail
          go_round
          case rel => exact ⟨q + 1, pi, by omega, by go_num, rfl, Lib.hid (HNX.out.1 HF.out), HBZ⟩
          case measure => simp [intOf]; omega
        | true =>
          rw [hs] at QE
          have HF := Lib.hid (show hitE e0 e1 e2 (f0, f1, f2, f3, f4, f5) = true by unfold hitE; simp only [hff, hs, Bool.and_true])
          rcases HAT.out.cases with rfl | ⟨a, rfl⟩
          · go_wp2_with fail
            go_round
            case rel => exact ⟨q + 1, (q : Int), by omega, by go_num, rfl, Lib.hid (HNX.out.2.1 HF.out rfl), HBZ⟩
            case measure => simp [intOf]; omega
          · have ha0 : ¬ (a : Int) < 0 := by omega
            have ha1 : (0 : Int) ≤ a := by omega
            go_wp2_with fail
            go_round
            case rel => exact ⟨q + 1, (a : Int), by omega, by go_num, rfl, Lib.hid (HNX.out.2.2 (by omega)), HBZ⟩
            case measure => simp [intOf]; omega
    · have hqm' : ¬ (q : Int) < m := by omega
      obtain rfl : q = m := by omega
      have hm16 := HM16.out
      have MT : Hid (Calls Tryd.prog 8 #[.slice VT q CT, .int .u16 e0, .agg #[.string e1, .int .u16 e2]] wr fun r w' =>
          ((∀ e ∈ es, hitE e0 e1 e2 e = false) ∧ (∃ EX, EX = Value.agg #[.int .u16 0, .int .u16 0, .bool false, .int .i64 0, .bool false, .bool false, .bool false, .bool false, .int .i64 0, .string ⟨#[]⟩, .int .u16 0, .slice none 0 0, .slice none 0 0, .slice none 0 0, .int .i64 0, .string ⟨#[]⟩, .int .i64 0, .bool false, .int .i64 0] ∧ r = .returned (.tuple #[EX, .slice none 0 0, .bool false])) ∧ Below wr.heap.size wr w') ∨
          (∃ a, ∃ ha : a < es.length, hitE e0 e1 e2 es[a] = true ∧ (∀ i (hi : i < es.length), i < a → hitE e0 e1 e2 es[i] = false) ∧ ∃ v f0 f1 f2 f3 f4 f5, es[a] = (f0, f1, f2, f3, f4, f5) ∧ (∃ EX, EX = Value.agg #[.int .u16 f0, .int .u16 0, .bool false, .int .i64 0, .bool false, .bool false, .bool false, .bool false, .int .i64 0, .string f1, .int .u16 f2, .slice none 0 0, .slice none 0 0, .slice none 0 0, .int .i64 0, .string f3, .int .i64 f4, .bool false, .int .i64 f5] ∧ r = .returned (.tuple #[EX, v, .bool true])) ∧ OBM 19 wr.heap.size wr v (es.eraseIdx a).length (flatE (es.eraseIdx a)) w')) :=
        Lib.hid ((match_any VT q CT es e0 e1 e2 wr ((HT5.out.below HBX.out).ents HM.out.symm) (by omega)).mono (by
          rintro r w' (⟨h1, rfl, h3⟩ | ⟨a, ha, h1, h2, v, rfl, ho⟩)
          · exact .inl ⟨h1, ⟨_, rfl, rfl⟩, h3⟩
          · exact .inr ⟨a, ha, h1, h2, v, es[a].1, es[a].2.1, es[a].2.2.1, es[a].2.2.2.1, es[a].2.2.2.2.1, es[a].2.2.2.2.2, rfl, ⟨_, rfl, rfl⟩, ho⟩))
      have hE7 := HC7.out.below HBX.out
      have k7 := hE7.get 0 _
      have k79 := hE7.get 9 _
      have k710 := hE7.get 10 _
      clear hq hE7
      go_wp2_with fail
      refine MT.out.mono ?_
      rintro e w7 (⟨hno, ⟨EX, hEX, rfl⟩, hb7⟩ | ⟨a, ha, h1, h2, vr, f0, f1, f2, f3, f4, f5, hye, ⟨EX, hEX, rfl⟩, ho7⟩)
      all_goals (try dsimp only)
      · obtain rfl : pi = -1 := by
          rcases HAT.out with ⟨rfl, -⟩ | ⟨a, haq, hal, rfl, h1, -⟩
          · rfl
          · exfalso
            rw [hno _ (List.getElem_mem hal)] at h1
            cases h1
        have HEX := Lib.hid hEX
        clear hEX
        have HB7 := Lib.hid (below_trans HBX.out HBX.out.size hb7)
        have hZ := Cs.new w7 #[.int .u16 0, .int .u16 0, .bool false, .int .i64 0, .bool false, .bool false, .bool false, .bool false, .int .i64 0, .string ⟨#[]⟩, .int .u16 0, .slice none 0 0, .slice none 0 0, .slice none 0 0, .int .i64 0, .string ⟨#[]⟩, .int .i64 0, .bool false, .int .i64 0] 41 [.int .u16 0, .int .u16 0, .bool false, .int .i64 0, .bool false, .bool false, .bool false, .bool false, .int .i64 0, .string ⟨#[]⟩, .int .u16 0, .slice none 0 0, .slice none 0 0, .slice none 0 0, .int .i64 0, .string ⟨#[]⟩, .int .i64 0, .bool false, .int .i64 0]
        have HTH := Lib.hid (hZ.there 19 rfl)
        have hM := hZ.mid [.int .u16 0, .int .u16 0, .bool false, .int .i64 0, .bool false, .bool false, .bool false, .bool false, .int .i64 0, .string ⟨#[]⟩, .int .u16 0, .slice none 0 0, .slice none 0 0, .slice none 0 0, .int .i64 0, .string ⟨#[]⟩, .int .i64 0, .bool false, .int .i64 0] rfl
        have hbZ : Below w7.heap.size w7 ((w7.alloc (.cells #[.int .u16 0, .int .u16 0, .bool false, .int .i64 0, .bool false, .bool false, .bool false, .bool false, .int .i64 0, .string ⟨#[]⟩, .int .u16 0, .slice none 0 0, .slice none 0 0, .slice none 0 0, .int .i64 0, .string ⟨#[]⟩, .int .i64 0, .bool false, .int .i64 0] 41)).setCells w7.heap.size 0 [.int .u16 0, .int .u16 0, .bool false, .int .i64 0, .bool false, .bool false, .bool false, .bool false, .int .i64 0, .string ⟨#[]⟩, .int .u16 0, .slice none 0 0, .slice none 0 0, .slice none 0 0, .int .i64 0, .string ⟨#[]⟩, .int .i64 0, .bool false, .int .i64 0]) := below_setCells' (Nat.le_refl _) _ 0 ((Below.refl _ _).alloc (Nat.le_refl _) _)
        have H2 := Lib.hid (And.intro hM hbZ)
        clear hno hb7 hZ hM hbZ k7 k79 k710 MT
        go_upto_region 48 with (first | refine wpList_store_mid rfl 41 _ _ rfl w7.heap.size 0 #[.int .u16 0, .int .u16 0, .bool false, .int .i64 0, .bool false, .bool false, .bool false, .bool false, .int .i64 0, .string ⟨#[]⟩, .int .u16 0, .slice none 0 0, .slice none 0 0, .slice none 0 0, .int .i64 0, .string ⟨#[]⟩, .int .i64 0, .bool false, .int .i64 0] rfl HEX.out HTH.out (by kernel_rfl) (by simp [Value.oneCell']) ?_)
        obtain ⟨hM, hbZ⟩ := H2.out
        generalize (w7.alloc (.cells #[.int .u16 0, .int .u16 0, .bool false, .int .i64 0, .bool false, .bool false, .bool false, .bool false, .int .i64 0, .string ⟨#[]⟩, .int .u16 0, .slice none 0 0, .slice none 0 0, .slice none 0 0, .int .i64 0, .string ⟨#[]⟩, .int .i64 0, .bool false, .int .i64 0] 41)).setCells w7.heap.size 0 [.int .u16 0, .int .u16 0, .bool false, .int .i64 0, .bool false, .bool false, .bool false, .bool false, .int .i64 0, .string ⟨#[]⟩, .int .u16 0, .slice none 0 0, .slice none 0 0, .slice none 0 0, .int .i64 0, .string ⟨#[]⟩, .int .i64 0, .bool false, .int .i64 0] = w8 at *
        obtain ⟨gx, hgx⟩ : ∃ g, g = w7.heap.size := ⟨_, rfl⟩
        rw [← hgx] at hM ⊢
        have HRX := Lib.hid hM.range
        have HB8 := Lib.hid (below_trans HB7.out HB7.out.size hbZ)
        have SM : Hid (∀ w, Calls Tryd.prog 9 #[.agg #[.int .u16 0, .int .u16 0, .bool false, .int .i64 0, .bool false, .bool false, .bool false, .bool false, .int .i64 0, .string ⟨#[]⟩, .int .u16 0, .slice none 0 0, .slice none 0 0, .slice none 0 0, .int .i64 0, .string ⟨#[]⟩, .int .i64 0, .bool false, .int .i64 0], .agg #[.int .u16 0, .int .u16 0, .bool false, .int .i64 0, .bool false, .bool false, .bool false, .bool false, .int .i64 0, .string ⟨#[]⟩, .int .u16 0, .slice none 0 0, .slice none 0 0, .slice none 0 0, .int .i64 0, .string ⟨#[]⟩, .int .i64 0, .bool false, .int .i64 0]] w fun r w' => r = .returned (.bool true) ∧ Below w.heap.size w w') := Lib.hid (fun w => same26_self (e26 0) w)
        clear hM hbZ hgx
        go_wp2_with (first | refine wpList_load_midG rfl 41 _ rfl gx 0 rfl _ _ HRX.out Tryd.underlying41 rfl (by kernel_rfl) ?_)
        refine (SM.out w8).mono ?_
        rintro e w9 ⟨rfl, hb9⟩
        all_goals (try dsimp only)
        have HB9 := Lib.hid (below_trans HB8.out HB8.out.size hb9)
        have HB5X := Lib.hid (below_trans HB5.out HB5.out.size HB9.out)
        have HTZ := Lib.hid (HT5.out.below HB9.out)
        have HWZ := Lib.hid (HW5.out.below HB9.out)
        go_wp2_with fail
        go_meet
        exact ⟨es, HEL, HTZ, HWZ, HB5X⟩
      · obtain rfl : pi = a := by
          rcases HAT.out with ⟨rfl, h0⟩ | ⟨a', haq, hal, rfl, h3, h4⟩
          · exfalso
            rw [List.take_of_length_le (by rw [← HM.out]; exact Nat.le_refl _)] at h0
            rw [List.any_eq_false] at h0
            exact h0 _ (List.getElem_mem ha) h1
          · rcases Nat.lt_trichotomy a a' with h | h | h
            · exfalso; rw [h4 a ha h] at h1; cases h1
            · rw [h]
            · exfalso; rw [h2 a' hal h] at h3; cases h3
        have haq : a < q := by have := HM.out; omega
        have HEX := Lib.hid hEX
        clear hEX
        have hy : es[a]? = some (f0, f1, f2, f3, f4, f5) := by rw [List.getElem?_eq_getElem ha, hye]
        obtain ⟨bw, ow, rfl, hbw, hcw⟩ := (HW5.out.ents HM.out.symm).at_ a _ hy
        have hres : (es.eraseIdx a).length = q - 1 := by rw [List.length_eraseIdx_of_lt ha, ← HM.out]
        have hsplit : flatE (es.take a) ++ flatE (es.drop (a + 1)) = flatE (es.eraseIdx a) := by
          unfold flatE
          rw [← List.flatMap_append, List.eraseIdx_eq_take_drop_succ]
        have HSP := Lib.hid hsplit
        have HTL := Lib.hid (show (es.take a).length = a by rw [List.length_take]; omega)
        have HDL := Lib.hid (show (es.drop (a + 1)).length = q - (a + 1) by rw [List.length_drop, ← HM.out])
        obtain ⟨er, her⟩ : ∃ l, l = es.eraseIdx a := ⟨_, rfl⟩
        rw [← her] at ho7 hres hsplit HSP
        rw [hres] at ho7
        have HRES := Lib.hid hres
        have HT7 := Lib.hid (TV.of ho7 hres)
        obtain ⟨VR, CR, rfl, -, -, -⟩ := ho7.slice
        have HB7 := Lib.hid (below_trans HBX.out HBX.out.size ho7.bel)
        have HLE := Lib.hid (show er.length ≤ 16 by rw [hres]; omega)
        have HRW : Hid (∀ wx, Below w5.heap.size w5 wx → wx.rangeAt bw (ow + a * 19) [.int .u16 f0, .int .u16 0, .bool false, .int .i64 0, .bool false, .bool false, .bool false, .bool false, .int .i64 0, .string f1, .int .u16 f2, .slice none 0 0, .slice none 0 0, .slice none 0 0, .int .i64 0, .string f3, .int .i64 f4, .bool false, .int .i64 f5]) := Lib.hid (fun wx hb j v hv => (hb.cell (p := ⟨bw, ow + a * 19 + j, none⟩) hbw).trans (hcw j v hv))
        have hZ := Cs.new w7 #[.int .u16 0, .int .u16 0, .bool false, .int .i64 0, .bool false, .bool false, .bool false, .bool false, .int .i64 0, .string ⟨#[]⟩, .int .u16 0, .slice none 0 0, .slice none 0 0, .slice none 0 0, .int .i64 0, .string ⟨#[]⟩, .int .i64 0, .bool false, .int .i64 0] 41 [.int .u16 0, .int .u16 0, .bool false, .int .i64 0, .bool false, .bool false, .bool false, .bool false, .int .i64 0, .string ⟨#[]⟩, .int .u16 0, .slice none 0 0, .slice none 0 0, .slice none 0 0, .int .i64 0, .string ⟨#[]⟩, .int .i64 0, .bool false, .int .i64 0]
        have HTH := Lib.hid (hZ.there 19 rfl)
        have hM := hZ.mid [.int .u16 f0, .int .u16 0, .bool false, .int .i64 0, .bool false, .bool false, .bool false, .bool false, .int .i64 0, .string f1, .int .u16 f2, .slice none 0 0, .slice none 0 0, .slice none 0 0, .int .i64 0, .string f3, .int .i64 f4, .bool false, .int .i64 f5] rfl
        have hbZ : Below w7.heap.size w7 ((w7.alloc (.cells #[.int .u16 0, .int .u16 0, .bool false, .int .i64 0, .bool false, .bool false, .bool false, .bool false, .int .i64 0, .string ⟨#[]⟩, .int .u16 0, .slice none 0 0, .slice none 0 0, .slice none 0 0, .int .i64 0, .string ⟨#[]⟩, .int .i64 0, .bool false, .int .i64 0] 41)).setCells w7.heap.size 0 [.int .u16 f0, .int .u16 0, .bool false, .int .i64 0, .bool false, .bool false, .bool false, .bool false, .int .i64 0, .string f1, .int .u16 f2, .slice none 0 0, .slice none 0 0, .slice none 0 0, .int .i64 0, .string f3, .int .i64 f4, .bool false, .int .i64 f5]) := below_setCells' (Nat.le_refl _) _ 0 ((Below.refl _ _).alloc (Nat.le_refl _) _)
        have H2 := Lib.hid (And.intro hM hbZ)
        have hA0 : (0 : Int) ≤ a := by omega
        have hA1 : ¬ (a : Int) < 0 := by omega
        clear h1 h2 ho7 hy hye hcw hres hsplit her hZ hM hbZ k7 k79 k710 MT ha
        go_upto_region 48 with (first | refine wpList_store_mid rfl 41 _ _ rfl w7.heap.size 0 #[.int .u16 f0, .int .u16 0, .bool false, .int .i64 0, .bool false, .bool false, .bool false, .bool false, .int .i64 0, .string f1, .int .u16 f2, .slice none 0 0, .slice none 0 0, .slice none 0 0, .int .i64 0, .string f3, .int .i64 f4, .bool false, .int .i64 f5] rfl HEX.out HTH.out (by kernel_rfl) (by simp [Value.oneCell']) ?_)
        obtain ⟨hM, hbZ⟩ := H2.out
        generalize (w7.alloc (.cells #[.int .u16 0, .int .u16 0, .bool false, .int .i64 0, .bool false, .bool false, .bool false, .bool false, .int .i64 0, .string ⟨#[]⟩, .int .u16 0, .slice none 0 0, .slice none 0 0, .slice none 0 0, .int .i64 0, .string ⟨#[]⟩, .int .i64 0, .bool false, .int .i64 0] 41)).setCells w7.heap.size 0 [.int .u16 f0, .int .u16 0, .bool false, .int .i64 0, .bool false, .bool false, .bool false, .bool false, .int .i64 0, .string f1, .int .u16 f2, .slice none 0 0, .slice none 0 0, .slice none 0 0, .int .i64 0, .string f3, .int .i64 f4, .bool false, .int .i64 f5] = w8 at *
        obtain ⟨gx, hgx⟩ : ∃ g, g = w7.heap.size := ⟨_, rfl⟩
        rw [← hgx] at hM ⊢
        have HRX := Lib.hid hM.range
        have HLX := Lib.hid hM.lt
        have HB8 := Lib.hid (below_trans HB7.out HB7.out.size hbZ)
        have HT8 := Lib.hid (HT7.out.below hbZ)
        obtain ⟨EF, hEF⟩ : ∃ x : Value, x = .agg #[.int .u16 f0, .int .u16 0, .bool false, .int .i64 0, .bool false, .bool false, .bool false, .bool false, .int .i64 0, .string f1, .int .u16 f2, .slice none 0 0, .slice none 0 0, .slice none 0 0, .int .i64 0, .string f3, .int .i64 f4, .bool false, .int .i64 f5] := ⟨_, rfl⟩
        have HEF := Lib.hid hEF
        have SM : Hid (∀ w, Calls Tryd.prog 9 #[EF, EF] w fun r w' => r = .returned (.bool true) ∧ Below w.heap.size w w') := Lib.hid (fun w => by rw [HEF.out]; exact same26_self (f0, f1, f2, f3, f4, f5) w)
        have haqi : (a : Int) < q := by omega
        clear hM hbZ hgx hEF
        go_upto_region 51 with fail
        refine wp_region_goesG data_follows (fun x => by simp [putsF, Act.put]; rfl) w8.heap.size w8
          [isV EF, isV (.slice (some ⟨bw, ow, none⟩) q CW), isV (.int .i64 (a : Nat)), isV (.pointer (some ⟨bw, ow + a * 19, none⟩)), isV EF, isV (.bool true), isV (.bool false)]
          (by kernel_rfl) (by kernel_rfl) (by kernel_rfl) rfl ?_ (Below.refl _ _) ?_ ?_
        · repeat (first | exact trivial | refine ⟨isV_stays _, ?_⟩)
        · refine ⟨?_, ?_, ?_, ?_, ?_, ?_, ?_, trivial⟩
          all_goals
            intro x wx hR hd
            refine ⟨fun _ => ?_, fun hX => by simp at hX⟩
            simp at hd ⊢
          · refine wp_load_mid 41 _ rfl gx 0 (by simp [go_sem]) _ _ (fun j v hv => (hR.cell (p := ⟨gx, 0 + j, none⟩) HLX.out).trans (HRX.out j v hv)) Tryd.underlying41 rfl (by kernel_rfl) ?_
            exact next_same _ rfl HEF.out.symm hR
          · go_simp; exact next_same _ rfl rfl hR
          · go_simp; exact next_same _ rfl rfl hR
          · obtain ⟨hd0, hd1⟩ := hd; go_simp; exact next_same _ rfl rfl hR
          · refine wp_load_mid 41 _ rfl bw (ow + a * 19) (by simp [go_sem, hd]) _ _ (HRW.out wx (below_trans HB8.out HB8.out.size hR)) Tryd.underlying41 rfl (by kernel_rfl) ?_
            exact next_same _ rfl HEF.out.symm hR
          · obtain ⟨hd0, hd1⟩ := hd
            go_simp
            go_at_call 9
            refine (SM.out wx).mono ?_
            rintro r w2 ⟨rfl, hb⟩
            exact next_call _ rfl rfl hR hR.size hb
          · go_simp; exact next_same _ rfl rfl hR
        intro x w9 hR hx
        simp [AllWords] at hx
        have h6 : x 6 = .bool false := by simp [hx]
        rw [h6]
        clear hx h6
        have HB9 := Lib.hid (below_trans HB8.out HB8.out.size hR)
        have HT9 := Lib.hid (HT8.out.below hR)
        have HW9 := Lib.hid (HW5.out.below HB9.out)
        clear hR
        go_upto_region 53 with fail
        have hqc : q ≤ CW := cap_of HW9.out
        have HS1 : Hid (∀ wy, Below w9.heap.size w9 wy → Src Tryd.prog 19 24 (.slice (some ⟨bw, ow, none⟩) a CW) a (flatE (es.take a)) wy) := Lib.hid (fun wy hb => (HW9.out.below hb).take Tryd.underlying24 a CW HTL.out)
        have HF1 := Lib.hid (show (flatE (es.take a)).length = a * 19 by rw [flatE_len, HTL.out])
        obtain ⟨A8, hA8⟩ : ∃ A8 : Option Addr, (if CW = a + 1 then some ⟨bw, ow, none⟩ else some ⟨bw, ow + (a + 1) * 19, none⟩) = A8 := ⟨_, rfl⟩
        have HS2 : Hid (∀ wy, Below w9.heap.size w9 wy → Src Tryd.prog 19 24 (.slice A8 (q - (a + 1)) (CW - (a + 1))) (q - (a + 1)) (flatE (es.drop (a + 1))) wy) := Lib.hid (fun wy hb => by
          rw [← hA8]
          by_cases hck : CW = a + 1
          · rw [if_pos hck, show q - (a + 1) = 0 by omega]
            have : es.drop (a + 1) = [] := List.drop_eq_nil_of_le (by rw [← HM.out]; omega)
            rw [this]
            exact src_nothing Tryd.underlying24 _ _
          · rw [if_neg hck]
            exact (HW9.out.below hb).drop Tryd.underlying24 (a + 1) _ _ (by rw [← HM.out]; omega) HDL.out)
        have HF2 := Lib.hid (show (flatE (es.drop (a + 1))).length = (q - (a + 1)) * 19 by rw [flatE_len, HDL.out])
        have HSF := Lib.hid (sub_facts a q haq hm16)
        obtain ⟨hw1, hw2, hi1, hi2, hi3, hi4, hi5⟩ := small_facts a q CW haq hm16 hqc
        clear hqm hqm' hA0 hA1
        refine wp_region_expR data_follows (fun x => by simp [putsF, Act.put]; rfl) (fun d x v => Below w9.heap.size w9 v ∧ w9.heap.size ≤ v.heap.size ∧ (d 11 = false → x 11 = .slice (some ⟨bw, ow, none⟩) q CW))
          [isX (.slice VR (q - 1) CR), isX (.slice (some ⟨bw, ow, none⟩) q CW), isX (.int .i64 (a : Nat)), isX (.slice (some ⟨bw, ow, none⟩) a CW), until_ 9 (ownW 19 w9.heap.size w9 a (flatE (es.take a))), isX (.slice (some ⟨bw, ow, none⟩) q CW), isX (.int .i64 (a : Nat)), isX (.int .i64 ((a : Int) + 1)), isX (.slice A8 (q - (a + 1)) (CW - (a + 1))), always (ownW 19 w9.heap.size w9 (q - 1) (flatE er)), isX (.slice VR (q - 1) CR), always (ownW 19 w9.heap.size w9 (q - 1) (flatE er))]
          [1, 5, 9] (by kernel_rfl) (by kernel_rfl) (by kernel_rfl) rfl ?_ ⟨(Below.refl _ _).drew, Nat.le_refl _, fun _ => rfl⟩ ?_ ?_ ?_
        · repeat (first | exact trivial | refine ⟨by first | exact isX_stays _ | exact until_stays (ownW_stays _ _ _ _ _) | exact always_stays (ownW_stays _ _ _ _ _), ?_⟩)
        · refine ⟨?_, skipped rfl, ?_, ?_, ?_, skipped rfl, ?_, ?_, ?_, skipped rfl, ?_, ?_, trivial⟩
          all_goals
            intro _ d x wy hR hdi hsrc hd
            refine ⟨fun _ => ?_, fun hX => by simp at hX⟩
            simp [wordX, isX] at hd ⊢
          · go_simp; exact nextXR _ rfl rfl ⟨hR.1, hR.2.1, held_next hR.2.2 (by decide)⟩ (Below.refl _ _)
          · go_simp; exact nextXR _ rfl rfl ⟨hR.1, hR.2.1, held_next hR.2.2 (by decide)⟩ (Below.refl _ _)
          · obtain ⟨hd0, hd1⟩ := hd; go_simp; exact nextXR _ rfl rfl ⟨hR.1, hR.2.1, held_next hR.2.2 (by decide)⟩ (Below.refl _ _)
          · refine oper_append_obm _ _ _ _ rfl 41 i0 _ 184 Tryd.underlying24 hi hz0 hz1 hz2 rfl (OBM.start (sz := 19) wy) rfl (by exact hd) (HS1.out wy hR.1) HF1.out HSF.out.1 HSF.out.2.1 ?_
            intro v2 w' q1 q2 q3 q4
            have q1' : OBM 19 w9.heap.size w9 v2 a (flatE (es.take a)) w' := by have := q1.out hR.2.1 hR.1; simpa using this
            exact nextXR v2 rfl (until_of q1') ⟨q1'.bel, q1'.base, held_next hR.2.2 (by decide)⟩ q1.bel
          · go_simp; exact nextXR _ rfl rfl ⟨hR.1, hR.2.1, held_next hR.2.2 (by decide)⟩ (Below.refl _ _)
          · go_simp; exact nextXR _ rfl rfl ⟨hR.1, hR.2.1, held_next hR.2.2 (by decide)⟩ (Below.refl _ _)
          · obtain ⟨hd0, hd1⟩ := hd; go_simp; exact nextXR _ rfl rfl ⟨hR.1, hR.2.1, held_next hR.2.2 (by decide)⟩ (Below.refl _ _)
          · first
              | (obtain ⟨hd0, hd1⟩ := hd; go_simp; exact nextXR _ rfl rfl ⟨hR.1, hR.2.1, held_next hR.2.2 (by decide)⟩ (Below.refl _ _))
              | (go_simp; exact nextXR _ rfl rfl ⟨hR.1, hR.2.1, held_next hR.2.2 (by decide)⟩ (Below.refl _ _))
          · have hd9 : ownW 19 w9.heap.size w9 (q - 1) (flatE er) (x 9) wy := by first | exact hd | exact hd.1 | exact hd.2 | exact hd.2.1 | exact hd.2.2 | exact hd.2.2.1
            go_simp; exact nextXR _ rfl hd9 ⟨hR.1, hR.2.1, held_self⟩ (Below.refl _ _)
        · refine ⟨unskipped rfl, ?_, unskipped rfl, unskipped rfl, unskipped rfl, ?_, unskipped rfl, unskipped rfl, unskipped rfl, ?_, unskipped rfl, unskipped rfl, trivial⟩
          · intro _ d x wy hR hdi hcl hsrc hd
            refine ⟨fun _ => ?_, fun hX => by simp at hX⟩
            have d7 : d 11 = false := by
              cases e : d 11 with
              | false => rfl
              | true => have := hcl.reach 20 1 11 (by kernel_rfl) e; rw [hdi] at this; cases this
            have hx7 := hR.2.2 d7
            dsimp only
            rw [hx7]
            go_simp
            refine nextKR _ rfl rfl ⟨hR.1, hR.2.1, held_next hR.2.2 (by decide)⟩ ?_
            exact ⟨fun _ _ h => h, fun h => absurd rfl h, fun _ _ h => h, fun _ _ h => h, fun _ _ h => until_mono h, fun _ _ h => h, fun _ _ h => h, fun _ _ h => h, fun _ _ h => h, fun _ _ h => h, fun _ _ h => h, fun _ _ h => h, trivial⟩
          · intro _ d x wy hR hdi hcl hsrc hd
            refine ⟨fun _ => ?_, fun hX => by simp at hX⟩
            have d7 : d 11 = false := by
              cases e : d 11 with
              | false => rfl
              | true => have := hcl.reach 20 5 11 (by kernel_rfl) e; rw [hdi] at this; cases this
            have hx7 := hR.2.2 d7
            dsimp only
            rw [hx7]
            go_simp
            refine nextKR _ rfl rfl ⟨hR.1, hR.2.1, held_next hR.2.2 (by decide)⟩ ?_
            exact ⟨fun _ _ h => h, fun _ _ h => h, fun _ _ h => h, fun _ _ h => h, fun _ _ h => until_mono h, fun h => absurd rfl h, fun _ _ h => h, fun _ _ h => h, fun _ _ h => h, fun _ _ h => h, fun _ _ h => h, fun _ _ h => h, trivial⟩
          · intro _ d x wy hR hdi hcl hsrc hd
            refine ⟨fun _ => ?_, fun hX => by simp at hX⟩
            have d4 : d 4 = true := SrcX.reach (K := 9) hcl hsrc rfl 20 4 (by decide) (by kernel_rfl)
            have d8 : d 8 = true := SrcX.reach (K := 9) hcl hsrc rfl 20 8 (by decide) (by kernel_rfl)
            simp only [DoneX] at hd
            have ho4 : OBM 19 w9.heap.size w9 (x 4) a (flatE (es.take a)) wy := hd.2.2.2.2.1 d4 hdi
            have h8 : x 8 = .slice A8 (q - (a + 1)) (CW - (a + 1)) := hd.2.2.2.2.2.2.2.2.1 d8
            dsimp only
            rw [h8]
            refine oper_append_obm _ _ _ _ rfl 41 i0 _ 184 Tryd.underlying24 hi hz0 hz1 hz2 rfl ho4 rfl rfl (HS2.out wy hR.1) HF2.out HSF.out.2.2.1 HSF.out.2.2.2.1 ?_
            intro v2 w' q1 q2 q3 q4
            rw [HSP.out, HSF.out.2.2.2.2.1] at q1
            refine nextKR v2 rfl q1 ⟨q1.bel, q1.base, held_next hR.2.2 (by decide)⟩ ?_
            refine ⟨fun _ _ h => h, fun _ _ h => h, fun _ _ h => h, fun _ _ h => h, fun _ _ _ => until_self, fun _ _ h => h, fun _ _ h => h, fun _ _ h => h, fun _ _ h => h, fun h => absurd rfl h, fun _ _ h => h, fun _ h7 _ => ?_, trivial⟩
            have := hcl.reach 20 9 11 (by kernel_rfl) h7
            rw [hdi] at this; cases this
        · intro x wy d hall hR hx
          obtain ⟨-, -, -, -, -, -, -, -, -, -, h10, ho, -⟩ := hx
          have h10 : x 10 = .slice VR (q - 1) CR := h10
          have ho : OBM 19 w9.heap.size w9 (x 11) (q - 1) (flatE er) wy := ho
          obtain ⟨VO, CO, hxo, -, -, -⟩ := ho.slice
          have HWY := Lib.hid (TV.of ho HRES.out)
          have HTY := Lib.hid (HT9.out.below hR.1)
          have HBY := Lib.hid (below_trans HB5.out HB5.out.size (below_trans HB9.out HB9.out.size hR.1))
          rw [hxo] at HWY ⊢
          rw [h10]
          go_wp2_with fail
          go_meet
          exact ⟨er, HLE, HTY, HWY, HBY⟩
end Go.Proofs.YtpopnlbpeboiiaaDoor
