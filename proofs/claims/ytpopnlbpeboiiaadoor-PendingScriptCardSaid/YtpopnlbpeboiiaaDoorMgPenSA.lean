/- Texts that walks stand on, one behind the other. -/
import Derived.Test.YtpopnlbpeboiiaaDoorMgSA
import Derived.Outline
import Derived.Deep.DeepCutAuto
import Derived.Deep.CutBlock
namespace Go.Proofs.YtpopnlbpeboiiaaDoor
open Go.RowKit
set_option linter.unusedVariables false
set_option linter.unusedSimpArgs false
set_option maxRecDepth 20000
attribute [local simp] putsF isV wordOf Deps Region.binds Region.wanted Act.put wantedX isB
set_option maxHeartbeats 12800000 in
theorem penA
    {w : World}
    {n c : Nat}
    {ds : List DeedP}
    (HL : Hid (ds.length = n))
    (HN : Hid (n ≤ 3518437208780))
    (HET : Hid (Etype w))
    {i0 : TypeInfo}
    (hi : Tryd.prog.info? 41 = some i0)
    (hz0 : i0.zero =
        some
          (Value.agg
            #[Value.int IntKind.u16 0, Value.int IntKind.u16 0, Value.bool false, Value.int IntKind.i64 0, Value.bool false,
              Value.bool false, Value.bool false, Value.bool false, Value.int IntKind.i64 0, Value.string { data := #[] },
              Value.int IntKind.u16 0, Value.slice none 0 0, Value.slice none 0 0, Value.slice none 0 0,
              Value.int IntKind.i64 0, Value.string { data := #[] }, Value.int IntKind.i64 0, Value.bool false,
              Value.int IntKind.i64 0]))
    (hz1 : i0.size = 19)
    (hz2 : i0.bytes = 184)
    {w1 : World}
    (HB1 : Hid (Below w.heap.size w w1))
    {wr : World}
    {u2 u8 u10 u11 u12 u13 u14 u15 u16 u17 u18 u19 u20 u22 u23 u24 u30 u31 u32 u33 u34 u35 u36 u38 u39 u40 u41 u42 u43 u44 u45 u46 u47 u48 u49 u50 u51 u52 u53 u54 u55 u56 u57 u58 u59 u60 u61 u62 u63 u64 u65 u66 u67 u68 u69 u70 u71 u72 u74 u75 u76 u77 u78 u79 u80 u81 u82 u83 u84 u85 u86 u87 u88 u89 u90 u91 u92 u93 u94 u95 u96 u97 u98 u99 u100 u101 u102 u103 u104 u105 u106 u107 u108 u109 u110 u111 u112 u113 u114 u115 u116 u117 u118 u119 u120 u121 u122 u123 u124 u125 u126 u127 u128 u129 u130 u131 u132 u133 u134 u135 u136 u137 u138 u139 u140 u141 u142 u143 u144 u145 u146 u147 u148 u149 u150 u151 u152 u153 u154 u155 u156 u157 u158 u159 u160 u161 u162 u163 u164 u165 u166 u167 u168 u169 u170 u171 u172 u173 u174 u175 u176 u177 u178 u179 u180 u181 u182 u183 u184 u185 u186 u187 u188 u189 u190 u191 u192 u193 u194 u195 u196 u197 u198 u199 u200 u201 u202 u203 u204 u205 u206 u207 : Value}
    {k : Nat}
    {es : List EntT}
    (hk : k ≤ n)
    (HEL : Hid (es.length ≤ 16))
    (hlt : k < n)
    (hlt' : ↑k < ↑n)
    {bb off : Nat}
    (HS : Hid (DeedsP w (some { block := bb, off := off }) n c ds))
    (hbb : bb < w.heap.size)
    {x1 : Int}
    {A1 : Option Addr}
    {n1 c1 : Nat}
    {l1 : List UInt8}
    {x3 x4 : Int}
    {xn o : Nat}
    (HO5 : Hid (o = 0 ∨ o = 1 ∨ o = 2 ∨ o = 3 ∨ o = 4))
    (HTI : Hid (-128 ≤ x4 ∧ x4 < 128))
    {e0 : Int}
    {e1 : ByteArray}
    {e2 : Int}
    {e3 : ByteArray}
    {e4 e5 : Int}
    (EN : ∀ (w : World),
        DpOk w (↑xn, x1, (A1, n1, c1, l1), x3, x4) →
          Calls Tryd.prog 5
            #[Value.agg
                #[Value.int IntKind.u8 ↑xn, Value.int IntKind.u8 x1, Value.slice A1 n1 c1, Value.int IntKind.u8 x3,
                  Value.int IntKind.i8 x4]]
            w fun e w' =>
            e =
                Ending.returned
                  (Value.agg
                    #[Value.int IntKind.u16 e0, Value.int IntKind.u16 0, Value.bool false, Value.int IntKind.i64 0,
                      Value.bool false, Value.bool false, Value.bool false, Value.bool false, Value.int IntKind.i64 0,
                      Value.string e1, Value.int IntKind.u16 e2, Value.slice none 0 0, Value.slice none 0 0,
                      Value.slice none 0 0, Value.int IntKind.i64 0, Value.string e3, Value.int IntKind.i64 e4,
                      Value.bool false, Value.int IntKind.i64 e5]) ∧
              Below w.heap.size w w')
    (hnv : n ≤ 3518437208780)
    {m : Nat}
    (HM : Hid (m = es.length))
    (HM16 : Hid (m ≤ 16))
    {w2 : World}
    {w5 : World}
    {g7 g6 : Nat}
    (HC7 : Hid
        (Cs w5 g7
          [Value.int IntKind.u16 e0, Value.int IntKind.u16 0, Value.bool false, Value.int IntKind.i64 0, Value.bool false,
            Value.bool false, Value.bool false, Value.bool false, Value.int IntKind.i64 0, Value.string e1,
            Value.int IntKind.u16 e2, Value.slice none 0 0, Value.slice none 0 0, Value.slice none 0 0,
            Value.int IntKind.i64 0, Value.string e3, Value.int IntKind.i64 e4, Value.bool false, Value.int IntKind.i64 e5]))
    (HC6 : Hid
        (Cs w5 g6
          [Value.int IntKind.u8 ↑xn, Value.int IntKind.u8 x1, Value.slice A1 n1 c1, Value.int IntKind.u8 x3,
            Value.int IntKind.i8 x4]))
    (HB5 : Hid (Below w.heap.size w w5))
    {VT : Option Addr}
    {CT : Nat}
    (HT5 : Hid (TV w5 (Value.slice VT m CT) es))
    {VW : Option Addr}
    {CW : Nat}
    (HW5 : Hid (TV w5 (Value.slice VW m CW) es))
    {Jx Kx : Act → World → Prop}
    (hJ : ∀ (a' : Act) (w' : World),
        (∃ u2 u3 u4 u8 u10 u11 u12 u13 u14 u15 u16 u17 u18 u19 u20 u22 u23 u24 u30 u31 u32 u33 u34 u35 u36 u38 u39 u40 u41
            u42 u43 u44 u45 u46 u47 u48 u49 u50 u51 u52 u53 u54 u55 u56 u57 u58 u59 u60 u61 u62 u63 u64 u65 u66 u67 u68 u69
            u70 u71 u72 u73 u74 u75 u76 u77 u78 u79 u80 u81 u82 u83 u84 u85 u86 u87 u88 u89 u90 u91 u92 u93 u94 u95 u96 u97
            u98 u99 u100 u101 u102 u103 u104 u105 u106 u107 u108 u109 u110 u111 u112 u113 u114 u115 u116 u117 u118 u119 u120
            u121 u122 u123 u124 u125 u126 u127 u128 u129 u130 u131 u132 u133 u134 u135 u136 u137 u138 u139 u140 u141 u142
            u143 u144 u145 u146 u147 u148 u149 u150 u151 u152 u153 u154 u155 u156 u157 u158 u159 u160 u161 u162 u163 u164
            u165 u166 u167 u168 u169 u170 u171 u172 u173 u174 u175 u176 u177 u178 u179 u180 u181 u182 u183 u184 u185 u186
            u187 u188 u189 u190 u191 u192 u193 u194 u195 u196 u197 u198 u199 u200 u201 u202 u203 u204 u205 u206 u207,
            (∃ es', Hid (es'.length ≤ 16) ∧ Hid (TV w' u3 es') ∧ Hid (TV w' u4 es') ∧ Hid (Below w.heap.size w w')) ∧
              a' =
                {
                  tmps :=
                    #[Value.slice (some { block := bb, off := off }) n c, undef, u2, u3, u4, undef,
                      Value.pointer (some { block := g6, off := 0 }), Value.pointer (some { block := g7, off := 0 }), u8,
                      undef, u10, u11, u12, u13, u14, u15, u16, u17, u18, u19, u20, undef, u22, u23, u24, Value.bool true,
                      Value.bool false, Value.slice (some { block := bb, off := off }) n c, Value.int IntKind.i64 ↑n,
                      Value.int IntKind.i64 ↑k, u30, u31, u32, u33, u34, u35, u36, Value.int IntKind.u8 ↑o, u38, u39, u40,
                      u41, u42, u43, u44, u45, u46, u47, u48, u49, u50, u51, u52, u53, u54, u55, u56, u57, u58, u59, u60,
                      u61, u62, u63, u64, u65, u66, u67, u68, u69, u70, u71, u72, u73, u74, u75, u76, u77, u78, u79, u80,
                      u81, u82, u83, u84, u85, u86, u87, u88, u89, u90, u91, u92, u93, u94, u95, u96, u97, u98, u99, u100,
                      u101, u102, u103, u104, u105, u106, u107, u108, u109, u110, u111, u112, u113, u114, u115, u116, u117,
                      u118, u119, u120, u121, u122, u123, u124, u125, u126, u127, u128, u129, u130, u131, u132, u133, u134,
                      u135, u136, u137, u138, u139, u140, u141, u142, u143, u144, u145, u146, u147, u148, u149, u150, u151,
                      u152, u153, u154, u155, u156, u157, u158, u159, u160, u161, u162, u163, u164, u165, u166, u167, u168,
                      u169, u170, u171, u172, u173, u174, u175, u176, u177, u178, u179, u180, u181, u182, u183, u184, u185,
                      u186, u187, u188, u189, u190, u191, u192, u193, u194, u195, u196, u197, u198, u199, u200, u201, u202,
                      u203, u204, u205, u206, u207],
                  defers := [] }) →
          Jx a' w')
    (hM : ∀ (a' : Act) (w' : World), Met Jx a' w' → Kx a' w')
    {u30 u31 u32 u33 u34 u35 u36 u41 u42 u43 u44 u45 u46 u47 u48 u49 u50 u51 u52 u53 u54 u55 u56 u57 u58 u59 u60 u61 u62 u63 u64 u65 u66 u67 u68 u69 u70 u71 u72 u74 u75 u76 u80 u81 u82 u83 u84 u85 u86 u87 u88 u89 u90 u91 u92 u93 u94 u95 u96 u97 u98 u99 u100 u101 u102 u103 u104 u105 u106 u107 u108 u109 u110 u111 u112 u113 u114 u115 u116 u117 u118 u119 u120 u121 u122 u123 u124 u125 u127 u131 u132 u133 u134 u135 u136 u137 u138 u139 u140 u141 u142 u143 u144 u145 u146 u147 u148 u149 u150 u151 u152 u153 u154 u155 u156 u157 u158 u159 u160 u161 u162 u163 u164 u165 u166 u167 u168 u169 u170 u171 u172 u173 u174 u175 u176 u177 u178 u179 u180 u181 u182 u183 u184 u185 u186 u187 u188 u189 u190 u191 u192 u193 u194 u195 u196 u197 u198 u199 u200 u201 u202 u203 u204 u205 u206 u207 : Value}
    {Q0 : Exit → Act → World → Prop} :
    Code.wp Tryd.prog penSwitch (Exit.inBlock 2 (Exit.then Kx Q0))
    {
      tmps :=
        #[Value.slice (some { block := bb, off := off }) n c, undef, u2, Value.slice VT m CT, Value.slice VW m CW,
          undef, Value.pointer (some { block := g6, off := 0 }), Value.pointer (some { block := g7, off := 0 }), u8,
          undef, u10, u11, u12, u13, u14, u15, u16, u17, u18, u19, u20, undef, u22, u23, u24, Value.bool true,
          Value.bool false, Value.slice (some { block := bb, off := off }) n c, Value.int IntKind.i64 ↑n,
          Value.int IntKind.i64 ↑k, u30, u31, u32, u33, u34, u35, u36, Value.int IntKind.u8 ↑o, u38, u39, u40, u41, u42,
          u43, u44, u45, u46, u47, u48, u49, u50, u51, u52, u53, u54, u55, u56, u57, u58, u59, u60, u61, u62, u63, u64,
          u65, u66, u67, u68, u69, u70, u71, u72, Value.bool true, u74, u75, u76, u77, u78, u79, u80, u81,
          u82, u83, u84, u85, u86, u87, u88, u89, u90, u91, u92, u93, u94, u95, u96, u97, u98, u99, u100, u101, u102,
          u103, u104, u105, u106, u107, u108, u109, u110, u111, u112, u113, u114, u115, u116, u117, u118, u119, u120,
          u121, u122, u123, u124, u125, u126, u127, u128, u129, u130, u131, u132, u133, u134, u135, u136, u137, u138,
          u139, u140, u141, u142, u143, u144, u145, u146, u147, u148, u149, u150, u151, u152, u153, u154, u155, u156,
          u157, u158, u159, u160, u161, u162, u163, u164, u165, u166, u167, u168, u169, u170, u171, u172, u173, u174,
          u175, u176, u177, u178, u179, u180, u181, u182, u183, u184, u185, u186, u187, u188, u189, u190, u191, u192,
          u193, u194, u195, u196, u197, u198, u199, u200, u201, u202, u203, u204, u205, u206, u207],
      defers := [] }
      w5 := by
  conv => enter [2]; whnf
  go_wp2_with fail
  go_loopw [8, 79] (fun er j wx => ∃ (q : Nat) (en : Nat), q ≤ m ∧ j = .int .i64 q ∧ er = .int .i64 en ∧ Hid ((en = 7 ∧ (es.take q).any (fun y => y.1 == e0) = true) ∨ (en = 0 ∧ (es.take q).any (fun y => y.1 == e0) = false)) ∧ Hid (Below w5.heap.size w5 wx)) (fun _ j _ => m - (intOf j).toNat)
  case atStart => exact ⟨0, 0, Nat.zero_le _, rfl, rfl, Lib.hid (.inr ⟨rfl, by simp⟩), Lib.hid (Below.refl _ _)⟩
  case round =>
    obtain ⟨q, en, hq, rfl, rfl, HER, HBX⟩ := hrel
    by_cases hqm : q < m
    · have hqm' : (q : Int) < m := by omega
      have hm16 := HM16.out
      obtain ⟨y, hy⟩ : ∃ r, es[q]? = some r := ⟨_, List.getElem?_eq_getElem (by rw [← HM.out]; exact hqm)⟩
      obtain ⟨bw, ow, rfl, hbw, hcw⟩ := (HW5.out.ents HM.out.symm).at_ q y hy
      have hany := any_take (fun y => y.1 == e0) hy
      obtain ⟨f0, f1, f2, f3, f4, f5⟩ := y
      have HAN := Lib.hid hany
      have HRG : Hid (wr.rangeAt bw (ow + q * 19) [.int .u16 f0, .int .u16 0, .bool false, .int .i64 0, .bool false, .bool false, .bool false, .bool false, .int .i64 0, .string f1, .int .u16 f2, .slice none 0 0, .slice none 0 0, .slice none 0 0, .int .i64 0, .string f3, .int .i64 f4, .bool false, .int .i64 f5]) := Lib.hid (fun j v hv => (HBX.out.cell (p := ⟨bw, ow + q * 19 + j, none⟩) hbw).trans (hcw j v hv))
      have hZ := Cs.new wr #[.int .u16 0, .int .u16 0, .bool false, .int .i64 0, .bool false, .bool false, .bool false, .bool false, .int .i64 0, .string ⟨#[]⟩, .int .u16 0, .slice none 0 0, .slice none 0 0, .slice none 0 0, .int .i64 0, .string ⟨#[]⟩, .int .i64 0, .bool false, .int .i64 0] 41 [.int .u16 0, .int .u16 0, .bool false, .int .i64 0, .bool false, .bool false, .bool false, .bool false, .int .i64 0, .string ⟨#[]⟩, .int .u16 0, .slice none 0 0, .slice none 0 0, .slice none 0 0, .int .i64 0, .string ⟨#[]⟩, .int .i64 0, .bool false, .int .i64 0]
      have HTH := Lib.hid (hZ.there 19 rfl)
      have hM := hZ.mid [.int .u16 f0, .int .u16 0, .bool false, .int .i64 0, .bool false, .bool false, .bool false, .bool false, .int .i64 0, .string f1, .int .u16 f2, .slice none 0 0, .slice none 0 0, .slice none 0 0, .int .i64 0, .string f3, .int .i64 f4, .bool false, .int .i64 f5] rfl
      have hbZ : Below wr.heap.size wr ((wr.alloc (.cells #[.int .u16 0, .int .u16 0, .bool false, .int .i64 0, .bool false, .bool false, .bool false, .bool false, .int .i64 0, .string ⟨#[]⟩, .int .u16 0, .slice none 0 0, .slice none 0 0, .slice none 0 0, .int .i64 0, .string ⟨#[]⟩, .int .i64 0, .bool false, .int .i64 0] 41)).setCells wr.heap.size 0 [.int .u16 f0, .int .u16 0, .bool false, .int .i64 0, .bool false, .bool false, .bool false, .bool false, .int .i64 0, .string f1, .int .u16 f2, .slice none 0 0, .slice none 0 0, .slice none 0 0, .int .i64 0, .string f3, .int .i64 f4, .bool false, .int .i64 f5]) := below_setCells' (Nat.le_refl _) _ 0 ((Below.refl _ _).alloc (Nat.le_refl _) _)
      have k7 := ((HC7.out.below HBX.out).below hbZ).get 0 _
      have k0 := hM.get 0 _
      have HBZ := Lib.hid (below_trans HBX.out HBX.out.size hbZ)
      have H2 := Lib.hid (And.intro k7 k0)
      clear hy hbw hcw hany hZ hM hbZ k7 k0
      go_upto_region 29 with (first
        | refine wpList_load_mid rfl 41 _ rfl bw (ow + q * 19) rfl _ _ HRG.out Tryd.underlying41 rfl (by kernel_rfl) ?_
        | refine wpList_store_mid rfl 41 _ _ rfl wr.heap.size 0 #[.int .u16 f0, .int .u16 0, .bool false, .int .i64 0, .bool false, .bool false, .bool false, .bool false, .int .i64 0, .string f1, .int .u16 f2, .slice none 0 0, .slice none 0 0, .slice none 0 0, .int .i64 0, .string f3, .int .i64 f4, .bool false, .int .i64 f5] rfl rfl HTH.out (by kernel_rfl) (by simp [Value.oneCell']) ?_)
      obtain ⟨k7, k0⟩ := H2.out
      generalize (wr.alloc (.cells #[.int .u16 0, .int .u16 0, .bool false, .int .i64 0, .bool false, .bool false, .bool false, .bool false, .int .i64 0, .string ⟨#[]⟩, .int .u16 0, .slice none 0 0, .slice none 0 0, .slice none 0 0, .int .i64 0, .string ⟨#[]⟩, .int .i64 0, .bool false, .int .i64 0] 41)).setCells wr.heap.size 0 [.int .u16 f0, .int .u16 0, .bool false, .int .i64 0, .bool false, .bool false, .bool false, .bool false, .int .i64 0, .string f1, .int .u16 f2, .slice none 0 0, .slice none 0 0, .slice none 0 0, .int .i64 0, .string f3, .int .i64 f4, .bool false, .int .i64 f5] = w6 at *
      cases hff : (f0 == e0) with
      | true =>
        have HF := Lib.hid hff
        go_wp2_with fail
        go_round
        case rel => exact ⟨q + 1, 7, by omega, by go_num, rfl, Lib.hid (.inl ⟨rfl, by rw [HAN.out]; simp only [HF.out, Bool.or_true]⟩), HBZ⟩
        case measure => simp [intOf]; omega
      | false =>
        have HF := Lib.hid hff
        go_wp2_with fail
        go_round
        case rel => exact ⟨q + 1, en, by omega, by go_num, rfl, Lib.hid (by
          rw [HAN.out]; simp only [HF.out, Bool.or_false]; exact HER.out), HBZ⟩
        case measure => simp [intOf]; omega
    · have hqm' : ¬ (q : Int) < m := by omega
      obtain rfl : q = m := by omega
      have htk : es.take q = es := List.take_of_length_le (by rw [← HM.out]; exact Nat.le_refl _)
      rw [htk] at HER
      have AD : Hid (∀ wx, Below w5.heap.size w5 wx → Calls Tryd.prog 6 #[.slice VT q CT, .agg #[.int .u16 e0, .int .u16 0, .bool false, .int .i64 0, .bool false, .bool false, .bool false, .bool false, .int .i64 0, .string e1, .int .u16 e2, .slice none 0 0, .slice none 0 0, .slice none 0 0, .int .i64 0, .string e3, .int .i64 e4, .bool false, .int .i64 e5]] wx (AddR es (e0, e1, e2, e3, e4, e5) wx)) := Lib.hid (fun wx hb => add_any VT q CT es (e0, e1, e2, e3, e4, e5) wx ((HT5.out.below hb).ents HM.out.symm) (by have := HM16.out; omega))
      have HR7 := Lib.hid (HC7.out.below HBX.out).range
      have hm16 := HM16.out
      clear htk hq
      by_cases hfull : 16 ≤ q
      · have hf1 : (16 : Int) ≤ q := by omega
        have hf2 : ¬ (q : Int) < 16 := by omega
        go_wp2_with (first | refine wpList_load_mid rfl 41 _ rfl g7 0 rfl _ _ HR7.out Tryd.underlying41 rfl (by kernel_rfl) ?_)
        refine (AD.out _ HBX.out).mono ?_
        rintro e w7 (⟨g1, rfl, hb7⟩ | ⟨g1, g2, -⟩ | ⟨g1, g2, -⟩)
        all_goals (try dsimp only)
        rotate_left
        · exfalso; have := HM.out; omega
        · exfalso; have := HM.out; omega
        have HB7 := Lib.hid (below_trans HBX.out HBX.out.size hb7)
        have NE := Lib.hid (number_errno 9 w7 (HET.out.keep (Nat.le_refl _) (below_trans HB5.out HB5.out.size HB7.out)))
        unfold errP
        clear g1 hb7
        go_wp2_with fail
        refine NE.out.mono ?_
        rintro e w8 ⟨rfl, hb8⟩
        all_goals (try dsimp only)
        have HB8 := Lib.hid (below_trans HB7.out HB7.out.size hb8)
        clear hb8 NE
        have HB5X := Lib.hid (below_trans HB5.out HB5.out.size HB8.out)
        have HTZ := Lib.hid (HT5.out.below HB8.out)
        have HWZ := Lib.hid (HW5.out.below HB8.out)
        go_wp2_with fail
        go_meet
        exact ⟨es, HEL, HTZ, HWZ, HB5X⟩
      · have hf1 : ¬ (16 : Int) ≤ q := by omega
        have hf2 : (q : Int) < 16 := by omega
        have HFL := Lib.hid hfull
        clear hfull
        rcases HER.out with ⟨rfl, han⟩ | ⟨rfl, han⟩
        · have HAN := Lib.hid han
          clear han
          go_wp2_with (first | refine wpList_load_mid rfl 41 _ rfl g7 0 rfl _ _ HR7.out Tryd.underlying41 rfl (by kernel_rfl) ?_)
          refine (AD.out _ HBX.out).mono ?_
          rintro e w7 (⟨g1, -⟩ | ⟨g1, g2, rfl, hb7⟩ | ⟨g1, g2, -⟩)
          all_goals (try dsimp only)
          · exfalso; have := HM.out; have := HFL.out; omega
          rotate_left
          · exfalso; have h1 : (es.any fun x => x.1 == e0) = false := g2; rw [HAN.out] at h1; cases h1
          have HB7 := Lib.hid (below_trans HBX.out HBX.out.size hb7)
          have NE := Lib.hid (number_errno 7 w7 (HET.out.keep (Nat.le_refl _) (below_trans HB5.out HB5.out.size HB7.out)))
          unfold errP
          clear g1 g2 hb7
          go_wp2_with fail
          refine NE.out.mono ?_
          rintro e w8 ⟨rfl, hb8⟩
          all_goals (try dsimp only)
          have HB8 := Lib.hid (below_trans HB7.out HB7.out.size hb8)
          clear hb8 NE
          have HB5X := Lib.hid (below_trans HB5.out HB5.out.size HB8.out)
          have HTZ := Lib.hid (HT5.out.below HB8.out)
          have HWZ := Lib.hid (HW5.out.below HB8.out)
          go_wp2_with fail
          go_meet
          exact ⟨es, HEL, HTZ, HWZ, HB5X⟩
        · have HAN := Lib.hid han
          clear han
          go_wp2_with (first | refine wpList_load_mid rfl 41 _ rfl g7 0 rfl _ _ HR7.out Tryd.underlying41 rfl (by kernel_rfl) ?_)
          refine (AD.out _ HBX.out).mono ?_
          rintro e w7 (⟨g1, -⟩ | ⟨g1, g2, -⟩ | ⟨g1, g2, v', rfl, ho7⟩)
          all_goals (try dsimp only)
          · exfalso; have := HM.out; have := HFL.out; omega
          · exfalso; have h1 : (es.any fun x => x.1 == e0) = true := g2; rw [HAN.out] at h1; cases h1
          have HB7 := Lib.hid (below_trans HBX.out HBX.out.size ho7.bel)
          have HT7 := Lib.hid (TV.of ho7 (by simp))
          have NE := Lib.hid (number_none w7)
          clear g1 g2 ho7
          go_wp2_with fail
          refine NE.out.mono ?_
          rintro e w8 ⟨rfl, hb8⟩
          all_goals (try dsimp only)
          have HB8 := Lib.hid (below_trans HB7.out HB7.out.size hb8)
          have HT8 := Lib.hid (HT7.out.below hb8)
          clear hb8 NE HT7
          obtain ⟨es', hes⟩ : ∃ l, l = es ++ [((e0, e1, e2, e3, e4, e5) : EntT)] := ⟨_, rfl⟩
          have hes2 : flatE es ++ [.int .u16 e0, .int .u16 0, .bool false, .int .i64 0, .bool false, .bool false, .bool false, .bool false, .int .i64 0, .string e1, .int .u16 e2, .slice none 0 0, .slice none 0 0, .slice none 0 0, .int .i64 0, .string e3, .int .i64 e4, .bool false, .int .i64 e5] = flatE es' := by rw [hes, flatE_snoc]; rfl
          have hes3 : es'.length = q + 1 := by rw [hes, List.length_append, ← HM.out]; rfl
          rw [← hes] at HT8
          have HES2 := Lib.hid hes2
          have HES3 := Lib.hid hes3
          have HHS := Lib.hid hes
          obtain ⟨VN, CN, hvn, -⟩ := HT8.out
          rw [hes3] at hvn
          subst hvn
          have HW8 := Lib.hid (HW5.out.below HB8.out)
          have HR8 := Lib.hid (HC7.out.below HB8.out).range
          have HL8 := Lib.hid (HC7.out.below HB8.out).lt
          have FL := Lib.hid (show (flatE es).length = q * 19 by rw [flatE_len, HM.out])
          clear hes hes2 hes3
          go_upto_region 38 with fail
          refine wp_region_expR data_follows (fun x => by simp [putsF, Act.put]; rfl) (fun d x v => Below w8.heap.size w8 v ∧ w8.heap.size ≤ v.heap.size ∧ (d 7 = false → x 7 = .slice VW q CW))
            [isX (.slice VN (q + 1) CN), isX (.slice VW q CW), until_ 5 (ownW 19 w8.heap.size w8 q (flatE es)), isX (.agg #[.int .u16 e0, .int .u16 0, .bool false, .int .i64 0, .bool false, .bool false, .bool false, .bool false, .int .i64 0, .string e1, .int .u16 e2, .slice none 0 0, .slice none 0 0, .slice none 0 0, .int .i64 0, .string e3, .int .i64 e4, .bool false, .int .i64 e5]), until_ 5 (litW 1 [.int .u16 e0, .int .u16 0, .bool false, .int .i64 0, .bool false, .bool false, .bool false, .bool false, .int .i64 0, .string e1, .int .u16 e2, .slice none 0 0, .slice none 0 0, .slice none 0 0, .int .i64 0, .string e3, .int .i64 e4, .bool false, .int .i64 e5]), always (ownW 19 w8.heap.size w8 (q + 1) (flatE es')), isX (.slice VN (q + 1) CN), always (ownW 19 w8.heap.size w8 (q + 1) (flatE es'))]
            [1, 5] (by kernel_rfl) (by kernel_rfl) (by kernel_rfl) rfl ?_ ⟨(Below.refl _ _).drew, Nat.le_refl _, fun _ => rfl⟩ ?_ ?_ ?_
          · repeat (first | exact trivial | refine ⟨by first | exact isX_stays _ | exact until_stays (ownW_stays _ _ _ _ _) | exact until_stays (litW_stays _ _) | exact always_stays (ownW_stays _ _ _ _ _), ?_⟩)
          · refine ⟨?_, skipped rfl, ?_, ?_, ?_, skipped rfl, ?_, ?_, trivial⟩
            all_goals
              intro _ d x wy hR hdi hsrc hd
              refine ⟨fun _ => ?_, fun hX => by simp at hX⟩
              simp [wordX, isX] at hd ⊢
            · go_simp; exact nextXR _ rfl rfl ⟨hR.1, hR.2.1, held_next hR.2.2 (by decide)⟩ (Below.refl _ _)
            · refine oper_append_obm _ _ _ _ rfl 41 i0 _ 184 Tryd.underlying24 hi hz0 hz1 hz2 rfl (OBM.start (sz := 19) wy) rfl (by exact hd) ((HW8.out.below hR.1).src Tryd.underlying24 HM.out.symm) FL.out (by unfold maxLen; omega) (by omega) ?_
              intro v2 w' q1 q2 q3 q4
              have q1' : OBM 19 w8.heap.size w8 v2 q (flatE es) w' := by have := q1.out hR.2.1 hR.1; simpa using this
              exact nextXR v2 rfl (until_of q1') ⟨q1'.bel, q1'.base, held_next hR.2.2 (by decide)⟩ q1.bel
            · refine wp_load_mid 41 _ rfl g7 0 (by simp [go_sem]) _ _ (fun j v hv => (hR.1.cell (p := ⟨g7, 0 + j, none⟩) HL8.out).trans (HR8.out j v hv)) Tryd.underlying41 rfl (by kernel_rfl) ?_
              exact nextXR _ rfl rfl ⟨hR.1, hR.2.1, held_next hR.2.2 (by decide)⟩ (Below.refl _ _)
            · go_simp; exact nextXR _ rfl (until_of (litW_new 1 _ _ _ _)) ⟨hR.1.alloc hR.2.1 _, by have := hR.2.1; simp; omega, held_next hR.2.2 (by decide)⟩ ((Below.refl _ _).alloc (Nat.le_refl _) _)
            · first
                | (obtain ⟨hd0, hd1⟩ := hd; go_simp; exact nextXR _ rfl rfl ⟨hR.1, hR.2.1, held_next hR.2.2 (by decide)⟩ (Below.refl _ _))
                | (go_simp; exact nextXR _ rfl rfl ⟨hR.1, hR.2.1, held_next hR.2.2 (by decide)⟩ (Below.refl _ _))
            · have hd5 : ownW 19 w8.heap.size w8 (q + 1) (flatE es') (x 5) wy := by first | exact hd | exact hd.1 | exact hd.2 | exact hd.2.1 | exact hd.2.2 | exact hd.2.2.1
              go_simp; exact nextXR _ rfl hd5 ⟨hR.1, hR.2.1, held_self⟩ (Below.refl _ _)
          · refine ⟨unskipped rfl, ?_, unskipped rfl, unskipped rfl, unskipped rfl, ?_, unskipped rfl, unskipped rfl, trivial⟩
            · intro _ d x wy hR hdi hcl hsrc hd
              refine ⟨fun _ => ?_, fun hX => by simp at hX⟩
              have d7 : d 7 = false := by
                cases e : d 7 with
                | false => rfl
                | true => have := hcl.reach 20 1 7 (by kernel_rfl) e; rw [hdi] at this; cases this
              have hx7 := hR.2.2 d7
              dsimp only
              rw [hx7]
              go_simp
              refine nextKR _ rfl rfl ⟨hR.1, hR.2.1, held_next hR.2.2 (by decide)⟩ ?_
              exact ⟨fun _ _ h => h, fun h => absurd rfl h, fun _ _ h => until_mono h, fun _ _ h => h, fun _ _ h => until_mono h, fun _ _ h => h, fun _ _ h => h, fun _ _ h => h, trivial⟩
            · intro _ d x wy hR hdi hcl hsrc hd
              refine ⟨fun _ => ?_, fun hX => by simp at hX⟩
              have d2 : d 2 = true := SrcX.reach (K := 5) hcl hsrc rfl 20 2 (by decide) (by kernel_rfl)
              have d4 : d 4 = true := SrcX.reach (K := 5) hcl hsrc rfl 20 4 (by decide) (by kernel_rfl)
              simp only [DoneX] at hd
              have ho2 : OBM 19 w8.heap.size w8 (x 2) q (flatE es) wy := hd.2.2.1 d2 hdi
              obtain ⟨g4, hx4, hc4⟩ := hd.2.2.2.2.1 d4 hdi
              dsimp only
              rw [hx4]
              refine oper_append_obm _ _ _ _ rfl 41 i0 _ 184 Tryd.underlying24 hi hz0 hz1 hz2 rfl ho2 rfl rfl
                (Src.ofSlice _ Tryd.underlying24 ⟨g4, 0, none⟩ 1 1 [.int .u16 e0, .int .u16 0, .bool false, .int .i64 0, .bool false, .bool false, .bool false, .bool false, .int .i64 0, .string e1, .int .u16 e2, .slice none 0 0, .slice none 0 0, .slice none 0 0, .int .i64 0, .string e3, .int .i64 e4, .bool false, .int .i64 e5] rfl (fun j u hu => by rw [Addr.add_lit, Nat.zero_add]; exact hc4.get j u hu) (entCells_one (e0, e1, e2, e3, e4, e5))) rfl (by unfold maxLen; omega) (by omega) ?_
              intro v2 w' q1 q2 q3 q4
              rw [HES2.out] at q1
              refine nextKR v2 rfl q1 ⟨q1.bel, q1.base, held_next hR.2.2 (by decide)⟩ ?_
              refine ⟨fun _ _ h => h, fun _ _ h => h, fun _ _ _ => until_self, fun _ _ h => h, fun _ _ _ => until_self, fun h => absurd rfl h, fun _ _ h => h, fun _ h7 _ => ?_, trivial⟩
              have := hcl.reach 20 5 7 (by kernel_rfl) h7
              rw [hdi] at this; cases this
          · intro x wy d hall hR hx
            obtain ⟨-, -, -, -, -, -, h6, ho, -⟩ := hx
            have h6 : x 6 = .slice VN (q + 1) CN := h6
            have ho : OBM 19 w8.heap.size w8 (x 7) (q + 1) (flatE es') wy := ho
            obtain ⟨VO, CO, hxo, -, -, -⟩ := ho.slice
            have HWY := Lib.hid (TV.of ho HES3.out)
            have HTY := Lib.hid (HT8.out.below hR.1)
            have HBY := Lib.hid (below_trans HB5.out HB5.out.size (below_trans HB8.out HB8.out.size hR.1))
            rw [hxo] at HWY ⊢
            rw [h6]
            clear ho hxo hR h6
            go_wp2_with fail
            go_meet
            exact ⟨es', Lib.hid (by rw [HES3.out]; have := HFL.out; omega), HTY, HWY, HBY⟩
end Go.Proofs.YtpopnlbpeboiiaaDoor
