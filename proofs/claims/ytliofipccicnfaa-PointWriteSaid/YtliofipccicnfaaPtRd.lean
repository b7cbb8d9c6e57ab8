/- point.Read in general. -/
import Derived.Test.YtliofipccicnfaaPtP
import Derived.Test.YtliofipccicnfaaPtR
import Derived.Test.YtliofipccicnfaaGot
namespace Go.Proofs.Ytliofipccicnfaa
open Go.RowKit
set_option linter.unusedVariables false
set_option linter.unusedSimpArgs false
set_option maxRecDepth 20000
theorem wp_scope_countF {P : Program} {a : Act} {w : World} {Q : Exit → Act → World → Prop} {c rest : Code} (l : Nat) (J : Nat → Act → World → Prop) (hf : findLabel c l = some (.seq .skip rest))
    (first : (∀ n a w, J n a w → rest.wp P (Exit.jump l (fun a w => ∃ n, J n a w) Q) a w) → c.wp P (Exit.jump l (fun a w => ∃ n, J n a w) Q) a w)
    (pass : ∀ n a w, J n a w → rest.wp P (Exit.jump l (fun a' w' => ∃ m, m < n ∧ J m a' w') Q) a w) : (Code.scope c).wp P Q a w := by
  refine wp_scope_count l J hf (first fun n a w h => ?_) (fun n a w h => wp_seq (wp_skip (pass n a w h)))
  refine Code.wp_mono ?_ (pass n a w h)
  intro e a' w' h
  cases e with
  | goto l' =>
    obtain ⟨h1, m, h2, h3⟩ := h
    exact ⟨h1, m, h3⟩
  | normal => exact h
  | exit id => exact h
  | ret => exact h
  | panic ch => exact h
  | outgrown => exact h
/-- What a walk's end is answered by. -/
def ptV (r : Option (List ByteArray × Nat)) : Value := match r with
  | some (ls, e) => if (makeOf ls).isSome = true then .tuple #[sv (nameOf ls), .int .i64 e, .bool true] else .tuple #[.string ⟨#[]⟩, .int .i64 0, .bool false]
  | none => .tuple #[.string ⟨#[]⟩, .int .i64 0, .bool false]
theorem ptr_n16 (s : ByteArray) (i : Nat) (h : i + 1 < s.size) (hc : 192 ≤ bt s i) : n16 s i = ptr s i + 49152 := by
  unfold n16 ptr
  rw [at8_eq s i (by omega), at8_eq s (i + 1) h, bt_get (by omega), bt_get h]
  omega
theorem ptr_lt (s : ByteArray) (i : Nat) (hc : 192 ≤ bt s i) : ptr s i < 16384 := by
  have := bt_lt s i
  have := bt_lt s (i + 1)
  unfold ptr; omega
/-- At the label. -/
def RdJ (W : World) (s : ByteArray) (r : Option (List ByteArray × Nat)) (m : Nat) (a : Act) (w : World) : Prop :=
  ∃ (ls : List ByteArray) (size behind i bound : Nat) (v : Value) (U : Nat → Value), rdP s m ls size behind i bound = some r ∧ i ≤ 9223372036854775807 ∧ ls.length ≤ size ∧ size ≤ 254 ∧ (∀ t ∈ ls, t.size ≤ 254) ∧ behind ≤ 9223372036854775807 ∧ Buf W.heap.size 9 W v ls.length (ls.map .string) w ∧
    a = { tmps := #[.string s, .int .i64 i, U 2, U 3, U 4, U 5, U 6, v, .int .i64 size, .int .i64 behind, .int .i64 bound, U 11, U 12, U 13, U 14, U 15, U 16, U 17, U 18, U 19, U 20, U 21, U 22, U 23, U 24, U 25, U 26, U 27, U 28, U 29, U 30, U 31, U 32, U 33, U 34, U 35, U 36, U 37, U 38, U 39, U 40, U 41, U 42, U 43, U 44, U 45, U 46, U 47, U 48, U 49, U 50, U 51, U 52, U 53, U 54, U 55, U 56, U 57, U 58, U 59, U 60, U 61, U 62, U 63, U 64, U 65, U 66, U 67, U 68, U 69, U 70, U 71, U 72, U 73, U 74, U 75, U 76, U 77, U 78, U 79, U 80, U 81, U 82, U 83, U 84, U 85, U 86, U 87, U 88, U 89, U 90, U 91, U 92, U 93, U 94, U 95, U 96, U 97, U 98, U 99, U 100, U 101, U 102, U 103], defers := [] }
theorem RdJ.to {W w : World} {s : ByteArray} {r : Option (List ByteArray × Nat)} {m : Nat} {ls : List ByteArray} {size behind i bound : Nat} {I SI BE BO : Int} {v u2 u3 u4 u5 u6 u11 u12 u13 u14 u15 u16 u17 u18 u19 u20 u21 u22 u23 u24 u25 u26 u27 u28 u29 u30 u31 u32 u33 u34 u35 u36 u37 u38 u39 u40 u41 u42 u43 u44 u45 u46 u47 u48 u49 u50 u51 u52 u53 u54 u55 u56 u57 u58 u59 u60 u61 u62 u63 u64 u65 u66 u67 u68 u69 u70 u71 u72 u73 u74 u75 u76 u77 u78 u79 u80 u81 u82 u83 u84 u85 u86 u87 u88 u89 u90 u91 u92 u93 u94 u95 u96 u97 u98 u99 u100 u101 u102 u103 : Value} (h1 : rdP s m ls size behind i bound = some r) (h2 : i ≤ 9223372036854775807) (h3 : ls.length ≤ size) (h4 : size ≤ 254) (h5 : ∀ t ∈ ls, t.size ≤ 254) (h6 : behind ≤ 9223372036854775807) (h7 : Buf W.heap.size 9 W v ls.length (ls.map .string) w)
    (e1 : I = i) (e2 : SI = size) (e3 : BE = behind) (e4 : BO = bound) : RdJ W s r m { tmps := #[.string s, .int .i64 I, u2, u3, u4, u5, u6, v, .int .i64 SI, .int .i64 BE, .int .i64 BO, u11, u12, u13, u14, u15, u16, u17, u18, u19, u20, u21, u22, u23, u24, u25, u26, u27, u28, u29, u30, u31, u32, u33, u34, u35, u36, u37, u38, u39, u40, u41, u42, u43, u44, u45, u46, u47, u48, u49, u50, u51, u52, u53, u54, u55, u56, u57, u58, u59, u60, u61, u62, u63, u64, u65, u66, u67, u68, u69, u70, u71, u72, u73, u74, u75, u76, u77, u78, u79, u80, u81, u82, u83, u84, u85, u86, u87, u88, u89, u90, u91, u92, u93, u94, u95, u96, u97, u98, u99, u100, u101, u102, u103], defers := [] } w := by
  subst e1 e2 e3 e4
  exact ⟨ls, size, behind, i, bound, v, fun k => (#[undef, undef, u2, u3, u4, u5, u6, undef, undef, undef, undef, u11, u12, u13, u14, u15, u16, u17, u18, u19, u20, u21, u22, u23, u24, u25, u26, u27, u28, u29, u30, u31, u32, u33, u34, u35, u36, u37, u38, u39, u40, u41, u42, u43, u44, u45, u46, u47, u48, u49, u50, u51, u52, u53, u54, u55, u56, u57, u58, u59, u60, u61, u62, u63, u64, u65, u66, u67, u68, u69, u70, u71, u72, u73, u74, u75, u76, u77, u78, u79, u80, u81, u82, u83, u84, u85, u86, u87, u88, u89, u90, u91, u92, u93, u94, u95, u96, u97, u98, u99, u100, u101, u102, u103] : Array Value).getD k undef, h1, h2, h3, h4, h5, h6, h7, rfl⟩
set_option maxHeartbeats 6400000 in
/-- The name at a place, and the place behind it. -/
theorem read_any (s : ByteArray) (i0 : Nat) (r : Option (List ByteArray × Nat)) (K : Nat) (w : World) (hs : s.size ≤ 140737488351232) (hi0 : i0 ≤ 9223372036854775807) (hK : rdP s K [] 0 0 i0 i0 = some r) :
    Calls Try.prog 7 #[.string s, .int .i64 i0] w fun e w' => e = .returned (ptV r) ∧ Below w.heap.size w w' := by
  obtain ⟨AR, hAR⟩ : ∃ AR : Ending → World → Prop, AR = fun e w' => e = .returned (ptV r) ∧ Below w.heap.size w w' := ⟨_, rfl⟩
  have HYES : Hid (∀ v wx, v = ptV r → Below w.heap.size w wx → AR (.returned v) wx) := Lib.hid (fun v wx h hb => by rw [hAR]; exact ⟨by rw [h], hb⟩)
  rw [← hAR]
  clear hAR
  obtain ⟨ii, hii, hz0, hz1, hz2⟩ := info_parts str_info
  have GY := Lib.hid (fun w (i : Nat) (h : i + 2 ≤ s.size) => get16_yes s i w (by unfold maxLen; omega) h)
  have GN := Lib.hid (fun w (i : Nat) (h : s.size < i + 2) => get16_no s i w (by unfold maxLen; omega) (.inr (by omega)))
  have MK := Lib.hid (fun w A c ls hA (h1 : ∀ t ∈ ls, t.size ≤ maxLen) (h2 : ls.length ≤ maxLen) => make_any A ls.length c ls w hA h1 h2)
  have HS := Lib.hid hs
  have HK := Lib.hid hK
  clear hs hK
  go_enter Try.func7, Try.ntmps7
  go_wp2
  refine wp_scope_countF 0 (RdJ w s r) rfl ?first ?pass
  case pass =>
    rintro m a wr ⟨ls, size, behind, i, bound, v, U, hr, hi, hl, hle, hsz, hbe, hb, rfl⟩
    obtain ⟨A, cc, rfl, hc1, hc2, _⟩ := hb.slice
    have HB := Lib.hid hb
    have HR := Lib.hid hr
    have HZ := Lib.hid hsz
    have hs := HS.out
    clear hb hr hsz
    obtain ⟨m, rfl⟩ : ∃ k, m = k + 1 := by
      cases m with
      | zero => have := HR.out; simp [rdP] at this
      | succ k => exact ⟨k, rfl⟩
    have hi0 : ¬ (i : Int) < 0 := by omega
    have hrr := HR.out
    unfold rdP at hrr
    by_cases h1 : i < s.size
    · rw [if_pos h1] at hrr
      have h1' : (i : Int) < s.size := by omega
      obtain ⟨c, hcd⟩ : ∃ c, c = bt s i := ⟨_, rfl⟩
      have hcc : (s[i]'h1).toNat = c := by rw [hcd]; exact bt_get h1
      have hc256 : c < 256 := by rw [hcd]; exact bt_lt s i
      rw [← hcd] at hrr
      have HC := Lib.hid hcd
      clear hcd
      by_cases h2 : 192 ≤ c
      · rw [if_pos h2] at hrr
        have h2' : (192 : Int) ≤ c := by omega
        by_cases h3 : i + 1 < s.size
        · rw [if_pos h3] at hrr
          have G := Lib.hid (GY.out wr i (by omega))
          have hpn := ptr_n16 s i h3 (by rw [← HC.out]; exact h2)
          have hpl := ptr_lt s i (by rw [← HC.out]; exact h2)
          obtain ⟨q, hq⟩ : ∃ q, q = n16 s i := ⟨_, rfl⟩
          obtain ⟨p, hpp⟩ : ∃ p, p = ptr s i := ⟨_, rfl⟩
          rw [← hpp] at hrr hpn hpl
          rw [← hq] at G hpn
          have hpq : ((q : Nat) : Int) - 49152 = p := by omega
          have hql : q < 65536 := by omega
          clear hpp hq hpn
          by_cases h4 : p < bound
          · rw [if_pos h4] at hrr
            have h4' : (p : Int) < bound := by omega
            have HRR := Lib.hid hrr
            clear hrr GY GN MK HR
            by_cases h5 : behind = 0
            · subst h5
              rw [if_pos rfl] at HRR
              go_wp2_with fail
              refine G.out.mono ?_
              rintro e w1 ⟨rfl, q1, rfl⟩
              go_wp2_with fail
              go_step3
              exact ⟨rfl, m, by omega, RdJ.to HRR.out (by omega) hl hle HZ.out (by omega) (HB.out.drewN q1) rfl rfl (by omega) rfl⟩
            · rw [if_neg h5] at HRR
              have h5' : ((behind : Int) == 0) = false := by rw [beq_eq_false_iff_ne]; omega
              clear h5
              go_wp2_with fail
              refine G.out.mono ?_
              rintro e w1 ⟨rfl, q1, rfl⟩
              go_wp2_with fail
              go_step3
              exact ⟨rfl, m, by omega, RdJ.to HRR.out (by omega) hl hle HZ.out hbe (HB.out.drewN q1) rfl rfl rfl rfl⟩
          · rw [if_neg h4] at hrr
            injection hrr with hrr
            have h4' : (bound : Int) ≤ p := by omega
            have HRR : Hid (none = r) := Lib.hid hrr
            clear hrr GY GN MK HR h4
            go_wp2_with fail
            refine G.out.mono ?_
            rintro e w1 ⟨rfl, q1, rfl⟩
            go_wp2_with fail
            rw [jump_back]
            refine bodyPost_ret (v := .tuple #[.string ⟨#[]⟩, .int .i64 0, .bool false]) (by simp [results, Try.results7, go_sem]) rfl (HYES.out _ _ (by rw [← HRR.out]; rfl) ((HB.out.drewN q1).below))
        · rw [if_neg h3] at hrr
          injection hrr with hrr
          have HRR : Hid (none = r) := Lib.hid hrr
          have G := Lib.hid (GN.out wr i (by omega))
          clear hrr GY GN MK HR
          go_wp2_with fail
          refine G.out.mono ?_
          rintro e w1 ⟨rfl, rfl⟩
          go_wp2_with fail
          rw [jump_back]
          refine bodyPost_ret (v := .tuple #[.string ⟨#[]⟩, .int .i64 0, .bool false]) (by simp [results, Try.results7, go_sem]) rfl (HYES.out _ _ (by rw [← HRR.out]; rfl) (HB.out.below))
      · rw [if_neg h2] at hrr
        have h2' : ¬ (192 : Int) ≤ c := by omega
        by_cases h3 : 63 < c
        · rw [if_pos h3] at hrr
          injection hrr with hrr
          have h3' : (63 : Int) < c := by omega
          have HRR : Hid (none = r) := Lib.hid hrr
          clear hrr GY GN MK HR h2 h3
          go_wp2_with fail
          rw [jump_back]
          refine bodyPost_ret (v := .tuple #[.string ⟨#[]⟩, .int .i64 0, .bool false]) (by simp [results, Try.results7, go_sem]) rfl (HYES.out _ _ (by rw [← HRR.out]; rfl) (HB.out.below))
        · rw [if_neg h3] at hrr
          have h3' : ¬ (63 : Int) < c := by omega
          by_cases h4 : 0 < c
          · rw [if_pos h4] at hrr
            have h4' : (0 : Int) < c := by omega
            by_cases h5 : s.size ≤ i + 1 + c ∨ 254 < size + (1 + c)
            · rw [if_pos h5] at hrr
              injection hrr with hrr
              have HRR : Hid (none = r) := Lib.hid hrr
              clear hrr GY GN MK HR h4 h3 h2
              by_cases h6 : s.size ≤ i + 1 + c
              · have h6' : (s.size : Int) ≤ (i : Int) + 1 + c := by omega
                clear h5 h6
                go_wp2_with fail
                rw [jump_back]
                refine bodyPost_ret (v := .tuple #[.string ⟨#[]⟩, .int .i64 0, .bool false]) (by simp [results, Try.results7, go_sem]) rfl (HYES.out _ _ (by rw [← HRR.out]; rfl) (HB.out.below))
              · have h6' : ¬ (s.size : Int) ≤ (i : Int) + 1 + c := by omega
                have h7' : (254 : Int) < (size : Int) + (1 + c) := by omega
                clear h5 h6
                go_wp2_with fail
                rw [jump_back]
                refine bodyPost_ret (v := .tuple #[.string ⟨#[]⟩, .int .i64 0, .bool false]) (by simp [results, Try.results7, go_sem]) rfl (HYES.out _ _ (by rw [← HRR.out]; rfl) (HB.out.below))
            · rw [if_neg h5] at hrr
              have h6' : ¬ (s.size : Int) ≤ (i : Int) + 1 + c := by omega
              have h7' : ¬ (254 : Int) < (size : Int) + (1 + c) := by omega
              obtain ⟨t, ht⟩ : ∃ t, t = labAt s i := ⟨_, rfl⟩
              have hex : s.extract (i + 1) (i + 1 + c) = t := by rw [ht, HC.out]; rfl
              have hts : Hid (t.size ≤ 254) := Lib.hid (by rw [ht, labAt_size (by rw [← HC.out]; omega), ← HC.out]; omega)
              rw [← ht] at hrr
              have HRR := Lib.hid hrr
              clear hrr GY GN MK HR h4 h3 h2 ht HC
              have hsm : ls.length + 1 ≤ 254 := by omega
              go_wp2_with (at_builtin; go_loud (refine wpList_append_one rfl _ _ 38 rfl w.heap.size 9 ii _ 16 Try.underlying38 hii hz0 hz1 hz2 rfl HB.out rfl rfl rfl ?c1 ?c2 ?_))
              case c1 => unfold maxLen; omega
              case c2 => omega
              intro v' w2 hb2
              have HB2 : Hid (Buf w.heap.size 9 w v' (ls ++ [t]).length ((ls ++ [t]).map .string) w2) := Lib.hid (by simpa using hb2)
              clear hb2
              go_wp2_with fail
              go_step3
              exact ⟨rfl, m, by omega, RdJ.to HRR.out (by omega) (by simp; omega) (by omega) (fun x hx => by
                rcases List.mem_append.1 hx with hx | hx
                · exact HZ.out x hx
                · rw [List.mem_singleton] at hx; subst hx; exact hts.out) hbe HB2.out (by omega) (by omega) rfl rfl⟩
          · rw [if_neg h4] at hrr
            injection hrr with hrr
            have h4' : ¬ (0 : Int) < c := by omega
            obtain ⟨E, hE⟩ : ∃ E, E = (if behind = 0 then i + 1 else behind) := ⟨_, rfl⟩
            rw [← hE] at hrr
            have HRR : Hid (some (ls, E) = r) := Lib.hid hrr
            have HM := Lib.hid (MK.out wr A cc ls HB.out.sl (fun t ht => by have := HZ.out t ht; unfold maxLen; omega) (by unfold maxLen; omega))
            clear hrr GY GN MK HR h4 h3 h2
            cases hmk : (makeOf ls).isSome with
            | true =>
              rw [hmk] at HM
              have HV : Hid (Value.tuple #[sv (nameOf ls), .int .i64 E, .bool true] = ptV r) := Lib.hid (by rw [← HRR.out]; simp [ptV, hmk])
              clear HRR hmk
              by_cases h5 : behind = 0
              · subst h5
                rw [if_pos rfl] at hE
                have hE' : ((i : Int) + 1) = E := by omega
                clear hE
                go_wp2_with fail
                refine HM.out.mono ?_
                rintro e w3 ⟨rfl, hb3⟩
                have HB3 := Lib.hid hb3
                clear hb3
                go_wp2_with fail
                rw [jump_back]
                refine bodyPost_ret (v := .tuple #[sv (nameOf ls), .int .i64 E, .bool true]) (by simp [results, Try.results7, go_sem]) rfl (HYES.out _ _ HV.out (below_trans HB.out.below HB.out.below.size HB3.out))
              · rw [if_neg h5] at hE
                have h5' : ((behind : Int) == 0) = false := by rw [beq_eq_false_iff_ne]; omega
                subst hE
                clear h5
                go_wp2_with fail
                refine HM.out.mono ?_
                rintro e w3 ⟨rfl, hb3⟩
                have HB3 := Lib.hid hb3
                clear hb3
                go_wp2_with fail
                rw [jump_back]
                refine bodyPost_ret (v := .tuple #[sv (nameOf ls), .int .i64 E, .bool true]) (by simp [results, Try.results7, go_sem]) rfl (HYES.out _ _ HV.out (below_trans HB.out.below HB.out.below.size HB3.out))
            | false =>
              rw [hmk] at HM
              have HV : Hid (Value.tuple #[.string ⟨#[]⟩, .int .i64 0, .bool false] = ptV r) := Lib.hid (by rw [← HRR.out]; simp [ptV, hmk])
              clear HRR hmk
              by_cases h5 : behind = 0
              · subst h5
                rw [if_pos rfl] at hE
                have hE' : ((i : Int) + 1) = E := by omega
                clear hE
                go_wp2_with fail
                refine HM.out.mono ?_
                rintro e w3 ⟨rfl, hb3⟩
                have HB3 := Lib.hid hb3
                clear hb3
                go_wp2_with fail
                rw [jump_back]
                refine bodyPost_ret (v := .tuple #[.string ⟨#[]⟩, .int .i64 0, .bool false]) (by simp [results, Try.results7, go_sem]) rfl (HYES.out _ _ HV.out (below_trans HB.out.below HB.out.below.size HB3.out))
              · rw [if_neg h5] at hE
                have h5' : ((behind : Int) == 0) = false := by rw [beq_eq_false_iff_ne]; omega
                subst hE
                clear h5
                go_wp2_with fail
                refine HM.out.mono ?_
                rintro e w3 ⟨rfl, hb3⟩
                have HB3 := Lib.hid hb3
                clear hb3
                go_wp2_with fail
                rw [jump_back]
                refine bodyPost_ret (v := .tuple #[.string ⟨#[]⟩, .int .i64 0, .bool false]) (by simp [results, Try.results7, go_sem]) rfl (HYES.out _ _ HV.out (below_trans HB.out.below HB.out.below.size HB3.out))
    · rw [if_neg h1] at hrr
      injection hrr with hrr
      have h1' : (s.size : Int) ≤ i := by omega
      have HRR : Hid (none = r) := Lib.hid hrr
      clear hrr GY GN MK HR h1
      go_wp2_with fail
      rw [jump_back]
      refine bodyPost_ret (v := .tuple #[.string ⟨#[]⟩, .int .i64 0, .bool false]) (by simp [results, Try.results7, go_sem]) rfl (HYES.out _ _ (by rw [← HRR.out]; rfl) (HB.out.below))
  case first =>
    intro PASS0
    have PASS := Lib.hid PASS0
    clear PASS0
    go_wp2
    rename_i hK1
    refine wp_label ?_
    exact hK1 _ _ (PASS.out _ _ _ (RdJ.to HK.out hi0 (Nat.le_refl _) (by decide) (by simp) (by decide) (Buf.start w _) rfl rfl rfl rfl))
end Go.Proofs.Ytliofipccicnfaa
