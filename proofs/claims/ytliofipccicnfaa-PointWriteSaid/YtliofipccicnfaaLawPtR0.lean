/- The walk of PointRead. -/
import Derived.Test.YtliofipccicnfaaPtRd
import Derived.Test.YtliofipccicnfaaPtS
namespace Go.Proofs.Ytliofipccicnfaa
open Go.RowKit
set_option linter.unusedVariables false
set_option linter.unusedSimpArgs false
set_option maxRecDepth 20000
theorem isUp_fold (c : UInt8) : isUp (fold8 c) = false := by
  have h : ∀ c : Fin 256, isUp (fold8 (UInt8.ofNat c.val)) = false := by decide
  have := h ⟨c.toNat, UInt8.toNat_lt _⟩
  simpa using this
theorem okLabel_low3 {l : List UInt8} (h : okLen l = true) : okLabel (l.map fold8) = true := by
  unfold okLen at h
  unfold okLabel
  rw [decide_eq_true_eq] at h
  simp only [List.length_map, Bool.and_eq_true, decide_eq_true_eq, List.all_eq_true, List.mem_map]
  refine ⟨h, ?_⟩
  rintro x ⟨c, -, rfl⟩
  rw [isUp_fold]; rfl
theorem szs_wire : ∀ ts : List ByteArray, (wire (lowL (bytesOf ts))).length = szs ts
  | [] => rfl
  | t :: ts => by
    have := szs_wire ts
    simp only [bytesOf, lowL, List.map_cons, wire_cons, List.length_append, List.length_cons, List.length_map, szs, List.sum_cons] at this ⊢
    simp only [this, Array.length_toList, ByteArray.size_data]
theorem make_small (ts : List ByteArray) (h : (makeOf ts).isSome = true) : szs ts ≤ 254 := by
  unfold makeOf makeL at h
  split at h
  · rename_i h2
    rw [← szs_wire]; exact h2.2
  · cases h
theorem make_may (ts : List ByteArray) (h : (makeOf ts).isSome = true) : (labelsOf ⟨(nameOf ts).toArray⟩).isSome = true ∧ (nameOf ts).length ≤ 254 := by
  have hc := h
  unfold nameOf
  unfold makeOf makeL at h ⊢
  split at h
  · rename_i h2
    rw [if_pos h2]
    refine ⟨?_, h2.2⟩
    have := (nameLabels_iff (wire (lowL (bytesOf ts))) (lowL (bytesOf ts))).2 ⟨h2.2, rfl, fun x hx => by
      unfold lowL at hx
      obtain ⟨y, hy, rfl⟩ := List.mem_map.1 hx
      exact okLabel_low3 (List.all_eq_true.1 h2.1 y hy)⟩
    unfold labelsOf
    simp [this]
  · cases h
theorem ptV_same {a b : Option (List ByteArray × Nat)} (h : b.filter (fun p => (makeOf p.1).isSome) = a.filter (fun p => (makeOf p.1).isSome)) : ptV b = ptV a := by
  have e : ∀ r : Option (List ByteArray × Nat), ptV r = ptV (r.filter (fun p => (makeOf p.1).isSome)) := by
    intro r
    cases r with
    | none => rfl
    | some p =>
      by_cases hp : (makeOf p.1).isSome = true
      · simp [Option.filter, hp]
      · simp [Option.filter, hp, ptV]
  rw [e a, e b, h]
/-- What the answers are. -/
theorem ptV_cases (r : Option (List ByteArray × Nat)) : ptV r = .tuple #[.string ⟨#[]⟩, .int .i64 0, .bool false] ∨ ∃ (n : ByteArray) (e : Nat), ptV r = .tuple #[.string n, .int .i64 e, .bool true] ∧ (labelsOf n).isSome = true ∧ n.size ≤ 254 := by
  cases r with
  | none => exact .inl rfl
  | some p =>
    by_cases hp : (makeOf p.1).isSome = true
    · refine .inr ⟨⟨(nameOf p.1).toArray⟩, p.2, ?_, (make_may p.1 hp).1, ?_⟩
      · simp [ptV, hp, sv]
      · have := (make_may p.1 hp).2
        simpa [ByteArray.size] using this
    · exact .inl (by simp [ptV, hp])
/-- The place behind, in the statement's words. -/
def EndI (e : Option Nat) (x : Int) : Prop := (e = none ∧ x = -1) ∨ ∃ b : Nat, e = some b ∧ x = b
set_option maxHeartbeats 6400000 in
theorem lread_any (s : ByteArray) (i0 : Nat) (w : World) (hs : s.size ≤ 3000) (hi0 : i0 ≤ 9223372036854775807) :
    Calls Try.prog 8 #[.string s, .int .i64 i0] w fun e w' => e = .returned (ptV (rfP s 3100 [] i0 i0 none)) ∧ Below w.heap.size w w' := by
  obtain ⟨R, hR⟩ : ∃ R, R = rfP s 3100 [] i0 i0 none := ⟨_, rfl⟩
  rw [← hR]
  obtain ⟨AR, hAR⟩ : ∃ AR : Ending → World → Prop, AR = fun e w' => e = .returned (ptV R) ∧ Below w.heap.size w w' := ⟨_, rfl⟩
  have HYES : Hid (∀ v wx, v = ptV R → Below w.heap.size w wx → AR (.returned v) wx) := Lib.hid (fun v wx h hb => by rw [hAR]; exact ⟨by rw [h], hb⟩)
  rw [← hAR]
  clear hAR
  obtain ⟨ii, hii, hz0, hz1, hz2⟩ := info_parts str_info
  have MK := Lib.hid (fun w A c ls hA (h1 : ∀ t ∈ ls, t.size ≤ maxLen) (h2 : ls.length ≤ maxLen) => make_any A ls.length c ls w hA h1 h2)
  have HK : Hid (rfP s (3100 - 0) [] i0 i0 none = R) := Lib.hid hR.symm
  clear hR
  go_enter Try.func8, Try.ntmps8
  go_wp2_with fail
  go_loopw [1, 7, 8, 9, 10] (fun vi ve vl v vn wr => ∃ (i low n : Nat) (E : Int) (ls : List ByteArray) (e : Option Nat), vi = .int .i64 i ∧ ve = .int .i64 E ∧ vl = .int .i64 low ∧ vn = .int .i64 n ∧ n ≤ 3100 ∧ i ≤ 9223372036854775807 ∧ ls.length ≤ n ∧ -1 ≤ E ∧ E ≤ 9223372036854775807 ∧ Hid (EndI e E) ∧ Hid (∀ t ∈ ls, t.size ≤ 254) ∧ Hid (rfP s (3100 - n) ls i low e = R) ∧ Hid (Buf w.heap.size 9 w v ls.length (ls.map .string) wr)) (fun _ _ _ _ vn _ => 3100 - (intOf vn).toNat)
  case atStart => exact ⟨i0, i0, 0, -1, [], none, rfl, rfl, rfl, rfl, by decide, hi0, Nat.le_refl _, by decide, by decide, Lib.hid (.inl ⟨rfl, rfl⟩), Lib.hid (by simp), HK, Lib.hid (Buf.start w _)⟩
  case round =>
    obtain ⟨i, low, n, E, ls, e, rfl, rfl, rfl, rfl, hn, hi, hl, hE1, hE2, HE, HZ, HR, HB⟩ := hrel
    obtain ⟨A, cc, rfl, hc1, hc2, _⟩ := HB.out.slice
    by_cases hlt : n < 3100
    · have hlt' : (n : Int) < 3100 := by omega
      obtain ⟨m, hm⟩ : ∃ m, 3100 - n = m + 1 := ⟨3100 - n - 1, by omega⟩
      have hm2 : 3100 - (n + 1) = m := by omega
      have hrr := HR.out
      rw [hm] at hrr
      have HM2 := Lib.hid hm2
      clear hm hm2 HR
      unfold rfP at hrr
      have hi0 : ¬ (i : Int) < 0 := by omega
      by_cases h1 : i < s.size
      · rw [if_pos h1] at hrr
        have h1' : (i : Int) < s.size := by omega
        obtain ⟨c, hcd⟩ : ∃ c, c = bt s i := ⟨_, rfl⟩
        have hcc : (s[i]'h1).toNat = c := by rw [hcd]; exact bt_get h1
        have hc256 : c < 256 := by rw [hcd]; exact bt_lt s i
        rw [← hcd] at hrr
        have HC := Lib.hid hcd
        clear hcd
        by_cases h2 : c = 0
        · subst h2
          rw [if_pos rfl] at hrr
          have HRR := Lib.hid hrr
          have HM := Lib.hid (MK.out wr A cc ls HB.out.sl (fun t ht => by have := HZ.out t ht; unfold maxLen; omega) (by unfold maxLen; omega))
          clear hrr MK
          cases hmk : (makeOf ls).isSome with
          | true =>
            rw [hmk] at HM
            rcases HE.out with ⟨he, hx⟩ | ⟨b, he, hx⟩
            · subst he hx
              have HV : Hid (Value.tuple #[sv (nameOf ls), .int .i64 ((i + 1 : Nat) : Int), .bool true] = ptV R) := Lib.hid (by rw [← HRR.out]; simp [ptV, hmk])
              rw [show ((i + 1 : Nat) : Int) = (i : Int) + 1 by omega] at HV
              clear HRR hmk hE1 hE2
              go_wp2_with fail
              refine HM.out.mono ?_
              rintro e w3 ⟨rfl, hb3⟩
              have HB3 := Lib.hid hb3
              clear hb3
              go_wp2_with fail
              refine bodyPost_ret (v := .tuple #[sv (nameOf ls), .int .i64 ((i : Int) + 1), .bool true]) (by simp [results, Try.results8, go_sem]) rfl (HYES.out _ _ HV.out (below_trans HB.out.below HB.out.below.size HB3.out))
            · subst he hx
              have HV : Hid (Value.tuple #[sv (nameOf ls), .int .i64 b, .bool true] = ptV R) := Lib.hid (by rw [← HRR.out]; simp [ptV, hmk])
              have hb0 : ¬ (b : Int) < 0 := by omega
              clear HRR hmk hE1
              go_wp2_with fail
              refine HM.out.mono ?_
              rintro e w3 ⟨rfl, hb3⟩
              have HB3 := Lib.hid hb3
              clear hb3
              go_wp2_with fail
              refine bodyPost_ret (v := .tuple #[sv (nameOf ls), .int .i64 b, .bool true]) (by simp [results, Try.results8, go_sem]) rfl (HYES.out _ _ HV.out (below_trans HB.out.below HB.out.below.size HB3.out))
          | false =>
            rw [hmk] at HM
            have HV : Hid (Value.tuple #[.string ⟨#[]⟩, .int .i64 0, .bool false] = ptV R) := Lib.hid (by rw [← HRR.out]; simp [ptV, hmk])
            clear HRR hmk
            rcases HE.out with ⟨he, hx⟩ | ⟨b, he, hx⟩
            · subst he hx
              clear hE1 hE2
              go_wp2_with fail
              refine HM.out.mono ?_
              rintro e w3 ⟨rfl, hb3⟩
              have HB3 := Lib.hid hb3
              clear hb3
              go_wp2_with fail
              refine bodyPost_ret (v := .tuple #[.string ⟨#[]⟩, .int .i64 0, .bool false]) (by simp [results, Try.results8, go_sem]) rfl (HYES.out _ _ HV.out (below_trans HB.out.below HB.out.below.size HB3.out))
            · subst he hx
              have hb0 : ¬ (b : Int) < 0 := by omega
              clear hE1
              go_wp2_with fail
              refine HM.out.mono ?_
              rintro e w3 ⟨rfl, hb3⟩
              have HB3 := Lib.hid hb3
              clear hb3
              go_wp2_with fail
              refine bodyPost_ret (v := .tuple #[.string ⟨#[]⟩, .int .i64 0, .bool false]) (by simp [results, Try.results8, go_sem]) rfl (HYES.out _ _ HV.out (below_trans HB.out.below HB.out.below.size HB3.out))
        · rw [if_neg h2] at hrr
          have h2' : ((c : Int) == 0) = false := by rw [beq_eq_false_iff_ne]; omega
          by_cases h3 : c < 64
          · rw [if_pos h3] at hrr
            have h3' : (c : Int) < 64 := by omega
            by_cases h4 : s.size ≤ i + c
            · rw [if_pos h4] at hrr
              have h4' : (s.size : Int) ≤ (i : Int) + c := by omega
              have HRR : Hid (none = R) := Lib.hid hrr
              clear hrr MK h2 h3 h4
              go_wp2_with fail
              refine bodyPost_ret (v := .tuple #[.string ⟨#[]⟩, .int .i64 0, .bool false]) (by simp [results, Try.results8, go_sem]) rfl (HYES.out _ _ (by rw [← HRR.out]; rfl) HB.out.below)
            · rw [if_neg h4] at hrr
              have h4' : ¬ (s.size : Int) ≤ (i : Int) + c := by omega
              obtain ⟨t, ht⟩ : ∃ t, t = labAt s i := ⟨_, rfl⟩
              have hex : s.extract (i + 1) (i + c + 1) = t := by rw [ht, HC.out]; unfold labAt; congr 1; omega
              have hts : Hid (t.size ≤ 254) := Lib.hid (by rw [ht, labAt_size (by rw [← HC.out]; omega), ← HC.out]; omega)
              rw [← ht] at hrr
              have HRR := Lib.hid hrr
              clear hrr MK h2 h3 ht HC
              go_wp2_with (at_builtin; go_loud (refine wpList_append_one rfl _ _ 38 rfl w.heap.size 9 ii _ 16 Try.underlying38 hii hz0 hz1 hz2 rfl HB.out rfl rfl rfl ?c1 ?c2 ?_))
              case c1 => unfold maxLen; omega
              case c2 => omega
              intro v' w2 hb2
              have HB2 : Hid (Buf w.heap.size 9 w v' (ls ++ [t]).length ((ls ++ [t]).map .string) w2) := Lib.hid (by simpa using hb2)
              clear hb2
              go_wp2_with fail
              go_roundw
              case rel => exact ⟨i + (c + 1), low, n + 1, E, ls ++ [t], e, by first | rfl | (congr 1; omega), rfl, rfl, by first | rfl | (congr 1; omega), by omega, by omega, by simp; omega, hE1, hE2, HE, Lib.hid (fun x hx => by
                rcases List.mem_append.1 hx with hx | hx
                · exact HZ.out x hx
                · rw [List.mem_singleton] at hx; subst hx; exact hts.out), Lib.hid (by rw [HM2.out]; exact HRR.out), HB2⟩
              case measure => simp [intOf]; omega
          · rw [if_neg h3] at hrr
            have h3' : (64 : Int) ≤ c := by omega
            by_cases h4 : c < 192 ∨ s.size ≤ i + 1
            · rw [if_pos h4] at hrr
              have HRR : Hid (none = R) := Lib.hid hrr
              clear hrr MK h2 h3
              by_cases h5 : c < 192
              · have h5' : (c : Int) < 192 := by omega
                clear h4 h5
                go_wp2_with fail
                refine bodyPost_ret (v := .tuple #[.string ⟨#[]⟩, .int .i64 0, .bool false]) (by simp [results, Try.results8, go_sem]) rfl (HYES.out _ _ (by rw [← HRR.out]; rfl) HB.out.below)
              · have h5' : (192 : Int) ≤ c := by omega
                have h6' : (s.size : Int) ≤ (i : Int) + 1 := by omega
                clear h4 h5
                go_wp2_with fail
                refine bodyPost_ret (v := .tuple #[.string ⟨#[]⟩, .int .i64 0, .bool false]) (by simp [results, Try.results8, go_sem]) rfl (HYES.out _ _ (by rw [← HRR.out]; rfl) HB.out.below)
            · rw [if_neg h4] at hrr
              have h5' : (192 : Int) ≤ c := by omega
              have h6' : ¬ (s.size : Int) ≤ (i : Int) + 1 := by omega
              have h6 : i + 1 < s.size := by omega
              obtain ⟨d, hd⟩ : ∃ d, d = bt s (i + 1) := ⟨_, rfl⟩
              have hdd : (s[i + 1]'h6).toNat = d := by rw [hd]; exact bt_get h6
              have hd256 : d < 256 := by rw [hd]; exact bt_lt s (i + 1)
              obtain ⟨p, hp⟩ : ∃ p, p = ptr s i := ⟨_, rfl⟩
              obtain ⟨c1, hc1e⟩ : ∃ c1 : Nat, (c : Int) - 192 = c1 := ⟨c - 192, by omega⟩
              obtain ⟨c2, hc2e⟩ : ∃ c2 : Nat, (c1 : Int) * 256 = c2 := ⟨c1 * 256, by omega⟩
              have hpe : (c2 : Int) + d = p := by rw [hp]; unfold ptr; rw [← HC.out, ← hd]; omega
              have hpl : p < 16384 := by omega
              have hc2l : c2 < 16384 := by omega
              have hc1l : c1 < 64 := by omega
              rw [← hp] at hrr
              clear hd hp h2 h3 h4
              have HRQ := Lib.hid hrr
              clear hrr MK
              go_upto_region 10 with fail
              have hrr := HRQ.out
              clear HRQ
              by_cases h7 : low ≤ p
              · rw [if_pos h7] at hrr
                have h7' : (low : Int) ≤ p := by omega
                have HRR : Hid (none = R) := Lib.hid hrr
                clear hrr h7
                rcases HE.out with ⟨he, hx⟩ | ⟨b, he, hx⟩
                · subst he hx
                  clear hE1 hE2
                  go_wp2_with fail
                  refine bodyPost_ret (v := .tuple #[.string ⟨#[]⟩, .int .i64 0, .bool false]) (by simp [results, Try.results8, go_sem]) rfl (HYES.out _ _ (by rw [← HRR.out]; rfl) HB.out.below)
                · subst he hx
                  have hb0 : ¬ (b : Int) < 0 := by omega
                  clear hE1
                  go_wp2_with fail
                  refine bodyPost_ret (v := .tuple #[.string ⟨#[]⟩, .int .i64 0, .bool false]) (by simp [results, Try.results8, go_sem]) rfl (HYES.out _ _ (by rw [← HRR.out]; rfl) HB.out.below)
              · rw [if_neg h7] at hrr
                have h7' : ¬ (low : Int) ≤ p := by omega
                have HRR := Lib.hid hrr
                clear hrr h7
                rcases HE.out with ⟨he, hx⟩ | ⟨b, he, hx⟩
                · subst he hx
                  clear hE1 hE2
                  go_wp2_with fail
                  go_roundw
                  case rel => exact ⟨p, p, n + 1, ((i + 2 : Nat) : Int), ls, some (i + 2), rfl, by congr 1, rfl, by first | rfl | (congr 1; omega), by omega, by omega, by omega, by omega, by omega, Lib.hid (.inr ⟨i + 2, rfl, rfl⟩), HZ, Lib.hid (by rw [HM2.out]; exact HRR.out), HB⟩
                  case measure => simp [intOf]; omega
                · subst he hx
                  have hb0 : ¬ (b : Int) < 0 := by omega
                  clear hE1
                  go_wp2_with fail
                  go_roundw
                  case rel => exact ⟨p, p, n + 1, b, ls, some b, rfl, rfl, rfl, by first | rfl | (congr 1; omega), by omega, by omega, by omega, by omega, by omega, Lib.hid (.inr ⟨b, rfl, rfl⟩), HZ, Lib.hid (by rw [HM2.out]; exact HRR.out), HB⟩
                  case measure => simp [intOf]; omega
      · rw [if_neg h1] at hrr
        have h1' : (s.size : Int) ≤ i := by omega
        have HRR : Hid (none = R) := Lib.hid hrr
        clear hrr MK h1
        go_wp2_with fail
        refine bodyPost_ret (v := .tuple #[.string ⟨#[]⟩, .int .i64 0, .bool false]) (by simp [results, Try.results8, go_sem]) rfl (HYES.out _ _ (by rw [← HRR.out]; rfl) HB.out.below)
    · have hlt' : ¬ (n : Int) < 3100 := by omega
      have HRR : Hid (none = R) := Lib.hid (by have := HR.out; rw [show 3100 - n = 0 by omega] at this; exact this)
      clear HR MK hlt
      go_wp2_with fail
      refine bodyPost_ret (v := .tuple #[.string ⟨#[]⟩, .int .i64 0, .bool false]) (by simp [results, Try.results8, go_sem]) rfl (HYES.out _ _ (by rw [← HRR.out]; rfl) HB.out.below)
end Go.Proofs.Ytliofipccicnfaa
