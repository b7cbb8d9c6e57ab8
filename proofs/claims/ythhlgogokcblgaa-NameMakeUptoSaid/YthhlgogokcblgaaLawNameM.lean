/- The walk of NameMake. -/
import Derived.Test.YthhlgogokcblgaaNameAw
import Derived.Test.YthhlgogokcblgaaView
import Derived.Test.YthhlgogokcblgaaRow
import Derived.Test.YthhlgogokcblgaaLawNameS
namespace Go.Proofs.Ythhlgogokcblgaa
open Go.RowKit
set_option linter.unusedVariables false

theorem sizes_each {ss : List ByteArray} : ∀ s ∈ ss, s.size + 1 ≤ sizes ss := by
  induction ss with
  | nil => intro s hs; cases hs
  | cons a l ih =>
    intro s hs
    have h0 : sizes (a :: l) = a.size + 1 + sizes l := by simp [sizes]
    rcases List.mem_cons.1 hs with rfl | hs
    · omega
    · have := ih s hs; omega
theorem sizes_len : ∀ ss : List ByteArray, ss.length ≤ sizes ss
  | [] => by simp
  | a :: l => by
    have h0 : sizes (a :: l) = a.size + 1 + sizes l := by simp [sizes]
    have := sizes_len l
    simp; omega

/-- Bytes of which the first j are folded. -/
def fp (l : List UInt8) (j : Nat) : List UInt8 := (l.take j).map fold8 ++ l.drop j
theorem fp_length (l : List UInt8) (j : Nat) (h : j ≤ l.length) : (fp l j).length = l.length := by simp [fp]; omega
theorem fp_zero (l : List UInt8) : fp l 0 = l := by simp [fp]
theorem fp_all (l : List UInt8) : fp l l.length = l.map fold8 := by simp [fp]
theorem fp_get (l : List UInt8) (j : Nat) (h : j < l.length) : (fp l j)[j]? = some l[j] := by
  unfold fp
  rw [List.getElem?_append_right (by simp; omega)]
  simp
  rw [Nat.min_eq_left (by omega), Nat.sub_self, Nat.add_zero]
  exact List.getElem?_eq_getElem h
theorem fp_set (l : List UInt8) (j : Nat) (h : j < l.length) : (fp l j).set j (fold8 l[j]) = fp l (j + 1) := by
  unfold fp
  rw [List.set_append_right _ _ (by simp; omega), List.take_succ_eq_append_getElem h, List.map_append, List.append_assoc, List.drop_eq_getElem_cons h]
  simp
  rw [Nat.min_eq_left (by omega), Nat.sub_self, List.drop_eq_getElem_cons h, List.set_cons_zero]
theorem fp_same (l : List UInt8) (j : Nat) (h : j < l.length) (hf : fold8 l[j] = l[j]) : fp l j = fp l (j + 1) := by
  rw [← fp_set l j h, hf]
  apply List.ext_getElem?
  intro i
  rw [List.getElem?_set]
  split
  · rename_i e
    subst e
    rw [fp_get l j h, if_pos (by rw [fp_length l j (by omega)]; exact h)]
  · rfl

/-- What the statement has of the first k labels. -/
def Want (ls : List (List UInt8)) (k : Nat) (X : List UInt8) (ok : Bool) : Prop :=
  k ≤ ls.length ∧ ok = (ls.take k).all okLen ∧ (ok = true → X = wire (lowL (ls.take k))) ∧ X.length ≤ 64 * k

theorem Want.good {ls : List (List UInt8)} {k : Nat} {X : List UInt8} (h : Want ls k X true) (hk : k < ls.length) (h1 : 1 ≤ ls[k].length) (h2 : ls[k].length ≤ 63) : Want ls (k + 1) (X ++ UInt8.ofNat ls[k].length :: ls[k].map fold8) true := by
  refine ⟨hk, ?_, fun _ => ?_, ?_⟩
  · rw [List.take_succ_eq_append_getElem hk, List.all_append, ← h.2.1]; simp [okLen, h1, h2]
  · rw [List.take_succ_eq_append_getElem hk, lowL_append, wire_append, ← h.2.2.1 rfl]
    simp [lowL, wire]
  · have := h.2.2.2; simp; omega
theorem Want.bad {ls : List (List UInt8)} {k : Nat} {X : List UInt8} {ok : Bool} (h : Want ls k X ok) (hk : k < ls.length) (h1 : ok = false ∨ ls[k].length < 1 ∨ 63 < ls[k].length) : Want ls (k + 1) X false := by
  have hx := h.2.2.2
  refine ⟨hk, ?_, (fun h' => by cases h'), by omega⟩
  rw [List.take_succ_eq_append_getElem hk, List.all_append, ← h.2.1]
  rcases h1 with rfl | h1
  · rfl
  · have : okLen ls[k] = false := by simp only [okLen, decide_eq_false_iff_not]; omega
    simp [this]
theorem cat3 (X l : List UInt8) (c : UInt8) : (⟨X.toArray⟩ : ByteArray) ++ ⟨[c].toArray⟩ ++ ⟨l.toArray⟩ = ⟨(X ++ c :: l).toArray⟩ := by
  apply ByteArray.ext
  simp

theorem fold_low (c : UInt8) : isUp (fold8 c) = false := by
  have v1 := fold8_val c
  cases h : isUp c with
  | true =>
    have h' := h
    simp only [isUp, decide_eq_true_eq] at h'
    rw [if_pos h] at v1
    simp only [isUp, decide_eq_false_iff_not]
    omega
  | false => simp only [fold8, h]; exact h
theorem okLabel_low {l : List UInt8} (h : okLen l = true) : okLabel (l.map fold8) = true := by
  simp only [okLen, decide_eq_true_eq] at h
  simp only [okLabel, List.length_map, Bool.and_eq_true, decide_eq_true_eq, List.all_eq_true]
  refine ⟨h, fun x hx => ?_⟩
  obtain ⟨y, _, rfl⟩ := List.mem_map.1 hx
  rw [fold_low]; rfl
theorem Want.make {ls : List (List UInt8)} {X : List UInt8} (h : Want ls ls.length X true) (hl : X.length ≤ 254) : makeL ls = some X ∧ nameLabels X = some (lowL ls) := by
  have h1 := h.2.1
  have h2 := h.2.2.1 rfl
  rw [List.take_length] at h1 h2
  refine ⟨?_, ?_⟩
  · unfold makeL
    rw [if_pos ⟨h1.symm, by rw [← h2]; exact hl⟩, h2]
  · refine (nameLabels_iff _ _).2 ⟨hl, h2, ?_⟩
    intro x hx
    obtain ⟨y, hy, rfl⟩ := List.mem_map.1 hx
    exact okLabel_low (List.all_eq_true.1 h1.symm y hy)
theorem Want.none {ls : List (List UInt8)} {X : List UInt8} {ok : Bool} (h : Want ls ls.length X ok) (hl : ok = false ∨ (ok = true ∧ 254 < X.length)) : makeL ls = none := by
  have h1 := h.2.1
  have h2 := h.2.2.1
  rw [List.take_length] at h1 h2
  unfold makeL
  rw [if_neg]
  rintro ⟨h3, h4⟩
  rcases hl with rfl | ⟨rfl, hl⟩
  · rw [h3] at h1; cases h1
  · rw [← h2 rfl] at h4; omega

set_option maxHeartbeats 1600000 in
set_option maxRecDepth 20000 in
theorem nameMake_walk (w : World) (A : Option Addr) (n c : Nat) (ss : List ByteArray) (SA : SlView w A n c (ss.map Value.string)) (hl : ss.length = n) (hz : ∀ s ∈ ss, s.size ≤ maxLen) (hc : c ≤ 1048576) (hs : sizes ss ≤ 1048576) :
    Calls Try.prog 8 #[.slice A n c] w fun e w' => e = .returned (.bool true) ∧ Below w.heap.size w w' := by
  obtain ⟨i0, hi, hz0, hz1, hz2⟩ := info_parts str_info
  have hA := SA.sl
  have hn : n ≤ 1048576 := by have := sizes_len ss; omega
  have heach : ∀ s ∈ ss, s.size ≤ 1048576 := fun s h => by have := sizes_each s h; omega
  have hbl := bytesOf_length ss
  go_enter Try.func8, Try.ntmps8
  go_wp2_with fail
  refine (awake2_any _).mono ?_
  rintro e w1 ⟨rfl, hb1⟩
  have hA1 := (hA.below hb1).more hb1.size
  have hz1' := hb1.size
  go_wp2_with fail
  go_loopw [3, 4, 5, 19] (fun x y v i wr => ∃ (k : Nat) (X : ByteArray) (ok : Bool), i = .int .i64 k ∧ x = .string X ∧ y = .bool ok ∧ Hid (Want (bytesOf ss) k X.data.toList ok) ∧
    Buf w1.heap.size 9 w1 v k ((lowL ((bytesOf ss).take k)).map sv) wr) (fun _ _ _ i _ => n - (intOf i).toNat)
  case atStart => exact ⟨0, ⟨#[]⟩, true, rfl, rfl, rfl, Lib.hid ⟨Nat.zero_le _, by simp, by simp [lowL, wire], by simp⟩, Buf.start _ _⟩
  case round =>
    obtain ⟨k, X, ok, rfl, rfl, rfl, hW, hb⟩ := hrel
    have hk := hW.out.1
    have hXl := hW.out.2.2.2
    have hXs : X.data.toList.length = X.size := by simp
    rw [hXs] at hXl
    rw [hbl, hl] at hk
    by_cases hlt : k < n
    · obtain ⟨b, off, u, rfl, hbb, hu, hcu⟩ := hA1.at_ hlt
      have hkl : k < ss.length := by omega
      have hlt' : (k : Int) < n := by omega
      have hcell : wr.cell? ⟨b, off + k, none⟩ = some (.string ss[k]) := by
        rw [hb.below.cell hbb, hcu]
        simp only [List.getElem?_map, List.getElem?_eq_getElem hkl, Option.map_some] at hu
        exact hu.symm
      have hsz := heach ss[k] (List.getElem_mem hkl)
      have hku := bytesOf_get ss k hkl
      have hlow : (lowL ((bytesOf ss).take (k + 1))).map sv = (lowL ((bytesOf ss).take k)).map sv ++ [sv (ss[k].data.toList.map fold8)] := by
        rw [List.take_succ_eq_append_getElem (by rw [hbl]; exact hkl), lowL_append, hku]
        simp [lowL]
      have hgood := fun (h : Want (bytesOf ss) k X.data.toList true) => h.good (by rw [hbl]; exact hkl)
      have hbad := hW.out.bad (by rw [hbl]; exact hkl)
      rw [hku] at hgood hbad
      generalize ss[k] = t at *
      have hconv := run_bytes_of_string (P := Try.prog) wr 9 22 5 t Try.underlying9 Try.underlying22 Try.underlying5
      have hrow := BR.new wr t (grownCap wr t.size 0 5) 5 (grownCap_ge _ _ _ _)
      obtain ⟨W1, hW1⟩ : ∃ W1, W1 = (wr.drew.alloc (.cells (bytesRow t (grownCap wr t.size 0 5)) 5 ((bytesRow t (grownCap wr t.size 0 5)).size, (bytesRow t (grownCap wr t.size 0 5)).size + 1))) := ⟨_, rfl⟩
      have hbel1 : Below wr.heap.size wr W1 := by rw [hW1]; exact (Below.refl _ wr).drew.alloc (Nat.le_refl _) _
      have hsz1 : W1.heap.size = wr.heap.size + 1 := by rw [hW1]; simp
      rw [← hW1] at hconv hrow
      obtain ⟨D, d, rfl, hd1, hd2, hd3⟩ := hb.slice3
      have htl : t.data.toList.length = t.size := by simp
      generalize hblk : wr.heap.size = blk at *
      generalize grownCap wr t.size 0 5 = cap at *
      have HLOW := Lib.hid hlow
      have HU := Lib.hid hu
      have HCU := Lib.hid hcu
      clear hW1 hu hcu hku hlow
      go_wp2_with fail
      go_loopw [27] (fun i w2 => ∃ j : Nat, i = .int .i64 j ∧ j ≤ t.size ∧ BR w2 blk (fp t.data.toList j) ∧ Below blk W1 w2) (fun i _ => t.size - (intOf i).toNat)
      case atStart => exact ⟨0, rfl, Nat.zero_le _, by rw [fp_zero]; exact hrow, Below.refl _ _⟩
      case round =>
        obtain ⟨j, rfl, hj, hbr, hbel⟩ := hrel
        by_cases hjl : j < t.size
        · have hjl' : (j : Int) < t.size := by omega
          have hjt : j < t.data.toList.length := by omega
          have hget := fp_get t.data.toList j hjt
          obtain ⟨hlen', hget'⟩ := List.getElem?_eq_some_iff.1 hget
          have hcj := hbr j hlen'
          rw [hget', toList_get t j hjl] at hcj
          have hset := fp_set t.data.toList j hjt
          have hsame := fp_same t.data.toList j hjt
          have hbrs := hbr.set hlen' (fold8 t[j])
          rw [toList_get t j hjl] at hset hsame
          rw [hset] at hbrs
          have hfv := fold8_val t[j]
          have hup : isUp t[j] = decide (65 ≤ t[j].toNat ∧ t[j].toNat ≤ 90) := rfl
          have hf0 : isUp t[j] = false → fold8 t[j] = t[j] := by intro h; unfold fold8; rw [h]; rfl
          have hc1 := hcj.1
          have hc2 := hcj.2
          simp only [bv] at hc1 hbrs
          have hlt8 := UInt8.toNat_lt t[j]
          generalize hq : t[j].toNat = q at *
          clear hget hget' hcj
          by_cases hA : 65 ≤ q ∧ q ≤ 90
          · rw [hup, decide_eq_true hA, if_pos rfl] at hfv
            rw [hfv] at hbrs
            have HB := Lib.hid hbrs
            have a1 : (65 : Int) ≤ q := by omega
            have a2 : (q : Int) ≤ 90 := by omega
            have e1 : IntKind.u8.wrap ((q : Int) + 32) = (q : Int) + 32 := by simp [IntKind.wrap, IntKind.bits, IntKind.signed]; omega
            have hbel2 := hbel.setCell (p := ⟨blk, j, none⟩) (Nat.le_refl _) (.int .u8 ((q : Int) + 32))
            have HE := Lib.hid hbel2
            clear hup hf0 hfv hbrs hset hsame hbr hbel hbel2 hq
            go_wp2_with fail
            go_roundw
            case rel => exact ⟨j + 1, by go_num, by omega, HB.out, HE.out⟩
            case measure => simp [intOf]; omega
          · have hs := hsame (hf0 (by rw [hup, decide_eq_false hA]))
            rw [hs] at hbr
            have HB := Lib.hid hbr
            have HE := Lib.hid hbel
            have hc3 : q < 65 ∨ 90 < q := by omega
            clear hup hf0 hfv hbrs hset hsame hbr hbel hq hs hA
            rcases hc3 with h | h
            · have a1 : ¬ (65 : Int) ≤ q := by omega
              clear h
              go_wp2_with fail
              go_roundw
              case rel => exact ⟨j + 1, by go_num, by omega, HB.out, HE.out⟩
              case measure => simp [intOf]; omega
            · have a1 : (65 : Int) ≤ q := by omega
              have a2 : ¬ (q : Int) ≤ 90 := by omega
              clear h
              go_wp2_with fail
              go_roundw
              case rel => exact ⟨j + 1, by go_num, by omega, HB.out, HE.out⟩
              case measure => simp [intOf]; omega
        · obtain rfl : j = t.size := by omega
          have hjl' : ¬ (t.size : Int) < t.size := by omega
          rw [← htl, fp_all] at hbr
          have hbw := hbel1.trans hbel
          have hb2 := hb.keep hbw (by omega)
          have hzw := hbel.size
          have hlt2 : blk < wr.heap.size := by omega
          have hS2 := hbr.sl hlt2
          simp only [List.length_map, htl] at hS2
          have hcv := run_string_of (P := Try.prog) wr 22 9 5 _ (some ⟨blk, 0, none⟩) t.size (t.data.toList.map fold8) Try.underlying22 Try.underlying5 Try.underlying9 hS2 (fun h => by cases h) cap
          clear hS2 hb hconv hrow hbel1 hbw hbel
          go_wp2_with (at_builtin; go_loud (refine wpList_append_one_g rfl _ _ 45 rfl w1.heap.size 9 i0 _ 16 Try.underlying45 hi hz0 hz1 hz2 rfl hb2 rfl rfl rfl ?c1 ?c2 ?_))
          case c1 => unfold maxLen; omega
          case c2 => omega
          intro v' w3 hb3 hs3 hk3
          have hne : ¬ some blk = (Value.slice D k d).ownBlock := by
            rcases hd3 with ⟨rfl, _⟩ | ⟨g, rfl, hg⟩
            · simp [Value.ownBlock]
            · simp [Value.ownBlock]; omega
          have hbr3 := hbr.block (hk3 blk hlt2 hne)
          have hlt3 : blk < w3.heap.size := Nat.lt_of_lt_of_le hlt2 hs3
          have hB3 : Buf w1.heap.size 9 w1 v' (k + 1) ((lowL ((bytesOf ss).take (k + 1))).map sv) w3 := by rw [HLOW.out]; exact hb3
          have HB := Lib.hid hB3
          have HD3 := Lib.hid hd3
          rw [htl] at hgood hbad
          have HGOOD := Lib.hid hgood
          have HBAD := Lib.hid hbad
          clear hk3 hb3 hB3 hb2 hne hbr hgood hbad hd3
          have hc4 : (ok = true ∧ 1 ≤ t.size ∧ t.size ≤ 63) ∨ ok = false ∨ (ok = true ∧ t.size < 1) ∨ (ok = true ∧ 1 ≤ t.size ∧ 63 < t.size) := by
            cases ok with
            | false => exact .inr (.inl rfl)
            | true =>
              rcases Nat.lt_or_ge t.size 1 with h | h
              · exact .inr (.inr (.inl ⟨rfl, h⟩))
              · rcases Nat.lt_or_ge 63 t.size with h' | h'
                · exact .inr (.inr (.inr ⟨rfl, h, h'⟩))
                · exact .inl ⟨rfl, h, h'⟩
          rcases hc4 with ⟨rfl, h1, h2⟩ | rfl | ⟨rfl, h1⟩ | ⟨rfl, h1, h2⟩
          · have a1 : (0 : Int) < t.size := by omega
            have a2 : (t.size : Int) ≤ 63 := by omega
            have hbyte := byte_val t.size (by omega)
            have w1' : IntKind.u8.wrap (t.size : Int) = t.size := by simp [IntKind.wrap, IntKind.bits, IntKind.signed]; omega
            have hcv1 := run_string_of (P := Try.prog) (w3.alloc (.cells #[bv (UInt8.ofNat t.size)] 5)) 22 9 5 _ (some ⟨w3.heap.size, 0, none⟩) 1 [UInt8.ofNat t.size] Try.underlying22 Try.underlying5 Try.underlying9 (Sl.fresh _ _ _ _ _ rfl rfl) (fun h => by cases h) 1
            have hbr4 : BR (w3.alloc (.cells #[bv (UInt8.ofNat t.size)] 5)) blk (t.data.toList.map fold8) := hbr3.block (Below.heap_alloc w3 _ blk hlt3)
            have hS4 := hbr4.sl (by simp; omega)
            simp only [List.length_map, htl] at hS4
            have hcv2 := run_string_of (P := Try.prog) _ 22 9 5 _ (some ⟨blk, 0, none⟩) t.size (t.data.toList.map fold8) Try.underlying22 Try.underlying5 Try.underlying9 hS4 (fun h => by cases h) cap
            rw [← hbyte] at hcv1 hcv2
            have G1 := Lib.hid h1
            have G2 := Lib.hid h2
            have hcat := cat3 X.data.toList (t.data.toList.map fold8) (UInt8.ofNat t.size)
            rw [ba_eta] at hcat
            have z1 : (⟨[UInt8.ofNat t.size].toArray⟩ : ByteArray).size = 1 := mk_size _
            have z2 : (⟨(t.data.toList.map fold8).toArray⟩ : ByteArray).size = t.size := by rw [mk_size, List.length_map, htl]
            generalize (⟨[UInt8.ofNat t.size].toArray⟩ : ByteArray) = s1 at *
            generalize (⟨(t.data.toList.map fold8).toArray⟩ : ByteArray) = s2 at *
            obtain ⟨x1, hx1⟩ : ∃ x1, X ++ s1 = x1 := ⟨_, rfl⟩
            rw [hx1] at hcat
            have z3 : x1.size = X.size + s1.size := by rw [← hx1, ByteArray.size_append]
            have k1 : ¬ 9223372036854775807 < X.size + s1.size := by omega
            have k2 : ¬ 9223372036854775807 < x1.size + s2.size := by omega
            clear z1 z2 z3
            have HCAT := Lib.hid hcat
            generalize UInt8.ofNat t.size = cb at *
            clear hcat hbyte hS4 hbr4 hbr3 hcv h1 h2
            go_wp2_with fail
            go_roundw
            case rel => exact ⟨k + 1, x1 ++ s2, true, by go_num, rfl, rfl, Lib.hid (by rw [HCAT.out]; exact HGOOD.out hW.out G1.out G2.out), HB.out.alloc _⟩
            case measure => simp [intOf]; omega
          · clear hcv hbr3
            go_wp2_with fail
            go_roundw
            case rel => exact ⟨k + 1, X, false, by go_num, rfl, rfl, Lib.hid (HBAD.out (.inl rfl)), HB.out⟩
            case measure => simp [intOf]; omega
          · have a1 : ¬ (0 : Int) < t.size := by omega
            have G1 := Lib.hid h1
            clear hcv hbr3 h1
            go_wp2_with fail
            go_roundw
            case rel => exact ⟨k + 1, X, false, by go_num, rfl, rfl, Lib.hid (HBAD.out (.inr (.inl G1.out))), HB.out⟩
            case measure => simp [intOf]; omega
          · have a1 : (0 : Int) < t.size := by omega
            have a2 : ¬ (t.size : Int) ≤ 63 := by omega
            have G2 := Lib.hid h2
            clear hcv hbr3 h1 h2
            go_wp2_with fail
            go_roundw
            case rel => exact ⟨k + 1, X, false, by go_num, rfl, rfl, Lib.hid (HBAD.out (.inr (.inr G2.out))), HB.out⟩
            case measure => simp [intOf]; omega
    · obtain rfl : k = n := by omega
      have hW2 := hW.out
      have hlk : (bytesOf ss).length = k := by rw [hbl, hl]
      have hfull : lowL ((bytesOf ss).take k) = lowL (bytesOf ss) := by rw [List.take_of_length_le (by omega)]
      rw [hfull] at hb
      have hlt' : ¬ (k : Int) < k := by omega
      have hmk := make_any A k c ss
      have hAr := (hA1.below' hb.below (Nat.le_refl _)).more hb.below.size
      have hBr := below_trans hb1 hz1' hb.below
      have hzr := hBr.size
      have hc3 : (ok = true ∧ X.size ≤ 254) ∨ (ok = false ∨ (ok = true ∧ 254 < X.data.toList.length)) := by
        cases ok with
        | false => exact .inr (.inl rfl)
        | true =>
          rcases Nat.lt_or_ge 254 X.size with h | h
          · exact .inr (.inr ⟨rfl, by rw [hXs]; exact h⟩)
          · exact .inl ⟨rfl, h⟩
      rw [← hlk] at hW2
      rcases hc3 with ⟨rfl, h⟩ | h
      · obtain ⟨h1, h2⟩ := hW2.make (by rw [hXs]; exact h)
        have hm : makeOf ss = some X.data.toList := h1
        have hn' : nameOf ss = X.data.toList := by unfold nameOf; rw [hm]; rfl
        have hlo : labelsOf X = some (lowL (bytesOf ss)) := h2
        have hlL : labelsL X = lowL (bytesOf ss) := by unfold labelsL; rw [hlo]; rfl
        have hlen : (lowL (bytesOf ss)).length = k := by unfold lowL; rw [List.length_map]; exact hlk
        have la := fun w => labels_any X w (by unfold maxLen; omega)
        have co := fun w => count_any X w (by unfold maxLen; omega)
        rw [hlo, hlL, hlen] at la
        rw [hlL, hlen] at co
        rw [hm, hn', sv_bytes] at hmk
        obtain ⟨D, d, rfl, hd1, hd2, hd3⟩ := hb.slice3
        have hS := hb.sl
        have HM := Lib.hid (fun w hA => hmk w hA hz (by unfold maxLen; omega))
        have LA := Lib.hid la
        have CO := Lib.hid co
        have h254 : (X.size : Int) ≤ 254 := by omega
        clear hmk la co hb h1 h2 hm hn' hlo hlL hW2 hfull hlk hXs hXl
        go_wp2_with fail
        refine (HM.out _ hAr).mono ?_
        rintro e w4 ⟨rfl, hb4⟩
        have hB4 := below_trans hBr hzr hb4
        have hz4 := hB4.size
        have hS4 := (hS.below hb4).more hb4.size
        clear hb4 hS hBr
        go_wp2_with fail
        refine (LA.out _).mono ?_
        rintro e w5 ⟨v, rfl, hb5⟩
        obtain ⟨E, p, rfl, he1, he2, he3⟩ := hb5.slice3
        have hB5 := below_trans hB4 hz4 hb5.below
        have hz5 := hB5.size
        have hS5 := (hS4.below hb5.below).more hb5.below.size
        have hE5 := hb5.sl
        clear hb5 hS4 hB4
        go_wp2_with fail
        refine (same_any _ _ _ _ _ _ _ _ _ _ hE5 hS5 (by unfold maxLen; omega)).mono ?_
        rintro e w6 ⟨rfl, j, rfl⟩
        rw [decide_eq_true rfl]
        have hB6 := below_drewN hB5 j
        have hz6 := hB6.size
        clear hB5 hS5 hE5
        go_wp2_with fail
        refine (CO.out _).mono ?_
        rintro e w7 ⟨rfl, hb7⟩
        have hB7 := below_trans hB6 hz6 hb7
        go_wp2_with fail
        go_ret
        exact ⟨rfl, hB7⟩
      · have hm : makeOf ss = none := hW2.none h
        have hn' : nameOf ss = [] := by unfold nameOf; rw [hm]; rfl
        rw [hm, hn', show sv [] = .string ⟨#[]⟩ from rfl] at hmk
        rw [hXs] at h
        have HM := Lib.hid (fun w hA => hmk w hA hz (by unfold maxLen; omega))
        clear hmk hb hm hn' hW2 hfull hlk hXs hXl
        rcases h with rfl | ⟨rfl, h⟩
        · go_wp2_with fail
          refine (HM.out _ hAr).mono ?_
          rintro e w4 ⟨rfl, hb4⟩
          have hB4 := below_trans hBr hzr hb4
          go_wp2_with fail
          go_ret
          exact ⟨rfl, hB4⟩
        · have h254 : ¬ (X.size : Int) ≤ 254 := by omega
          go_wp2_with fail
          refine (HM.out _ hAr).mono ?_
          rintro e w4 ⟨rfl, hb4⟩
          have hB4 := below_trans hBr hzr hb4
          go_wp2_with fail
          go_ret
          exact ⟨rfl, hB4⟩
end Go.Proofs.Ythhlgogokcblgaa
