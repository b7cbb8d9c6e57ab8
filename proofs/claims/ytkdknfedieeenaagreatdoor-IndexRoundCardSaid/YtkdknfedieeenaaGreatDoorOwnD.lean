/- The contracts of layer 13: plainBytes, wordBytes. -/
import Derived.Test.YtkdknfedieeenaaGreatDoorOwnC
import Derived.Test.YtkdknfedieeenaaGreatDoorObq
namespace Go.Proofs.YtkdknfedieeenaaGreatDoor
open Go.RowKit
set_option linter.unusedVariables false
set_option maxRecDepth 20000

theorem parseM_le (M : Nat) : ∀ (l : List UInt8) (acc n : Nat), acc ≤ M → Lib.parseUintM M acc l = .ok n → n ≤ M
  | [], acc, n, h, e => by
    simp only [Lib.parseUintM, Lib.NumEnd.ok.injEq] at e
    omega
  | c :: r, acc, n, h, e => by
    simp only [Lib.parseUintM] at e
    repeat' split at e
    all_goals first | (cases e; done) | exact parseM_le M r _ n (by omega) e
theorem puM_le (M : Nat) : ∀ (l : List UInt8) (acc n : Nat), acc ≤ M → puM M acc l = .ok n → n ≤ M
  | [], acc, n, h, e => by
    simp only [puM, Lib.NumEnd.ok.injEq] at e
    omega
  | c :: r, acc, n, h, e => by
    simp only [puM] at e
    repeat' split at e
    all_goals first | (cases e; done) | exact puM_le M r _ n (by omega) e
theorem val8_le (l : List UInt8) : val8 l ≤ 255 := by
  unfold val8 pu10 Lib.parseUintB
  split
  · exact Nat.zero_le _
  · rcases h : Lib.parseUintM (2 ^ 8 - 1) 0 l with n | _ | _
    · exact parseM_le _ l 0 n (by omega) h
    · exact Nat.zero_le _
    · exact Nat.le_refl _
theorem val16_le (l : List UInt8) : val16 l ≤ 65535 := by
  unfold val16 pu16
  split
  · exact Nat.zero_le _
  · rcases h : puM 65535 0 l with n | _ | _
    · exact puM_le _ l 0 n (by omega) h
    · exact Nat.zero_le _
    · exact Nat.le_refl _
theorem byte_wrap (n : Nat) : Value.int .u8 ((n : Int) % 256) = bv (UInt8.ofNat n) := by
  unfold bv
  rw [UInt8.toNat_ofNat']
  rfl

set_option maxHeartbeats 4000000 in
theorem plain_any (A : Option Addr) (n c : Nat) (ts : List ByteArray) (w : World) (hA : Sl w w.heap.size 1 A n (ts.map .string)) (hsz : ∀ t ∈ ts, t.size ≤ 281474976710656) (hn : n ≤ 16) (hL : LaidT w) :
    Calls Tryz.prog 117 #[.slice A n c] w fun e w' => e = .returned (sv (plainBytesR (bytesOf ts))) ∧ Below w.heap.size w w' := by
  obtain ⟨i0, hi, hz0, hz1, hz2⟩ := info_parts byte_info
  have hts : ts.length = n := by simpa using hA.1
  obtain ⟨G, hG⟩ : ∃ G : Nat → List UInt8, G = fun k => plainBytesR ((bytesOf ts).take k) := ⟨_, rfl⟩
  have hG0 : G 0 = [] := by rw [hG]; rfl
  have hGn : ∀ k (h : k < ts.length), G (k + 1) = G k ++ [UInt8.ofNat (val8 (ts[k]).data.toList)] := by
    intro k h
    rw [hG]; simp only
    rw [List.take_succ_eq_append_getElem (by rw [bytesOf_length]; exact h), bytesOf_get ts k h]
    unfold plainBytesR
    rw [List.map_append]; rfl
  have hGa : G n = plainBytesR (bytesOf ts) := by
    rw [hG]; simp only
    rw [List.take_of_length_le (by rw [bytesOf_length]; omega)]
  rw [← hGa]
  have HGN := Lib.hid hGn
  have HLL := Lib.hid hL
  have HG0 := Lib.hid hG0
  clear hG hGn hGa hL hG0
  go_enter Tryz.func117, Tryz.ntmps117
  go_wp2_with fail
  go_loopw [3, 10] (fun v i wr => ∃ k : Nat, k ≤ n ∧ i = .int .i64 k ∧ Buf w.heap.size 5 w v k ((G k).map bv) wr) (fun _ i _ => n - (intOf i).toNat)
  case atStart => exact ⟨0, Nat.zero_le _, rfl, by rw [HG0.out]; exact Buf.start _ _⟩
  case round =>
    obtain ⟨k, hk, rfl, hb⟩ := hrel
    obtain ⟨D, cd, rfl, hd1, hd2, hd3⟩ := hb.slice
    by_cases hlt : k < n
    · obtain ⟨b, off, u, rfl, hbb, hu, hc⟩ := hA.at_ hlt
      have hkl : k < ts.length := by omega
      have hzk := hsz ts[k] (List.getElem_mem hkl)
      have hcell : wr.cell? ⟨b, off + k, none⟩ = some (.string ts[k]) := by
        rw [hb.below.cell hbb, hc]
        simp only [List.getElem?_map, List.getElem?_eq_getElem hkl, Option.map_some] at hu
        exact hu.symm
      have hlt' : (k : Int) < n := by omega
      have hg := HGN.out k hkl
      generalize ts[k] = t at *
      have hpu := fun w h => pu10_any t hzk w h
      have hv := val8_le t.data.toList
      generalize val8 t.data.toList = x at *
      have hwx : IntKind.u8.wrap (x : Int) = x := by rw [IntKind.wrap_u8]; omega
      have hbx := byte_val x (by omega)
      have HG := Lib.hid hg
      have HPU := Lib.hid hpu
      have HBX := Lib.hid hbx
      have HLH := Lib.hid (HLL.out.below hb.below (Nat.le_refl _))
      clear hc hu hg hpu hzk hbx
      go_wp2_with (go_at_call 139; refine (HPU.out _ HLH.out).mono ?_; rintro e w1 ⟨er, rfl, hb1⟩; refine Hid.out ?_)
      refine Lib.hid ?_
      have hb2 := hb.keep hb1 (Nat.le_refl _)
      go_wp2_with (at_builtin; go_loud (refine wpList_append_one rfl _ _ 23 rfl w.heap.size 5 i0 _ 1 Tryz.underlying23 hi hz0 hz1 hz2 rfl hb2 rfl rfl rfl ?c1 ?c2 ?_))
      case c1 => unfold maxLen; omega
      case c2 => omega
      intro v' w2 hb3
      go_wp2
      go_roundw
      case rel => exact ⟨k + 1, by omega, by go_num, by rw [HG.out, List.map_append, List.map_cons, List.map_nil, ← HBX.out]; exact hb3⟩
      case measure => simp [intOf]; omega
    · obtain rfl : k = n := by omega
      have hlt' : ¬ (k : Int) < k := by omega
      have hb' := hb.below
      have hcv := run_string_of (P := Tryz.prog) wr 23 9 5 _ D k (G k) Tryz.underlying23 Tryz.underlying5 Tryz.underlying9 hb.sl (fun h => (hd3 h).1) cd
      obtain ⟨C, eC⟩ : ∃ C : ByteArray, C = ⟨(G k).toArray⟩ := ⟨_, rfl⟩
      rw [← eC] at hcv
      have EC := Lib.hid eC
      have HB := Lib.hid hb'
      clear eC hb hb'
      go_wp2
      go_ret
      exact ⟨by rw [EC.out]; rfl, HB.out⟩

set_option maxHeartbeats 4000000 in
theorem wordB_any (A : Option Addr) (n c : Nat) (ts : List ByteArray) (w : World) (hA : Sl w w.heap.size 1 A n (ts.map .string)) (hsz : ∀ t ∈ ts, t.size ≤ 281474976710656) (hn : n ≤ 8) (hL : LaidT w) :
    Calls Tryz.prog 115 #[.slice A n c] w fun e w' => e = .returned (sv (wordBytesR (bytesOf ts))) ∧ Below w.heap.size w w' := by
  obtain ⟨i0, hi, hz0, hz1, hz2⟩ := info_parts byte_info
  have hts : ts.length = n := by simpa using hA.1
  obtain ⟨M, hM⟩ : ∃ M, M = 2 * (9 - n) := ⟨_, rfl⟩
  have hM0 : 2 ≤ M ∧ M ≤ 18 := by omega
  obtain ⟨g, hg⟩ : ∃ g : List UInt8 → List UInt8, g = fun s => if s = zz then List.replicate M 0 else unword (val16 s) := ⟨_, rfl⟩
  obtain ⟨G, hG⟩ : ∃ G : Nat → List UInt8, G = fun k => ((bytesOf ts).take k).flatMap g := ⟨_, rfl⟩
  have hG0 : G 0 = [] := by rw [hG]; rfl
  have hGn : ∀ k (h : k < ts.length), G (k + 1) = G k ++ g (ts[k]).data.toList := by
    intro k h
    rw [hG]; simp only
    rw [List.take_succ_eq_append_getElem (by rw [bytesOf_length]; exact h), bytesOf_get ts k h, List.flatMap_append]
    simp
  have hGa : G n = wordBytesR (bytesOf ts) := by
    rw [hG]; simp only
    rw [List.take_of_length_le (by rw [bytesOf_length]; omega)]
    unfold wordBytesR
    rw [bytesOf_length, hts, hg, hM]
  have hlen : ∀ k, k ≤ n → (G k).length ≤ 18 * k := by
    intro k hk
    induction k with
    | zero => rw [hG0]; simp
    | succ k ih =>
      rw [hGn k (by omega), List.length_append]
      have := ih (by omega)
      have : (g (ts[k]).data.toList).length ≤ 18 := by
        rw [hg]; simp only
        split
        · simp; omega
        · simp [unword]
      omega
  rw [← hGa]
  have hgz : g zz = List.replicate M 0 := by rw [hg]; simp
  have hgx : ∀ s, s ≠ zz → g s = unword (val16 s) := by intro s h; rw [hg]; simp [h]
  have hMi : (2 : Int) * (9 - (n : Int)) = M := by omega
  have hMw : (9 : Int) - (n : Int) ≤ 9 := by omega
  have HGN := Lib.hid hGn
  have HLL := Lib.hid hL
  have HG0 := Lib.hid hG0
  have HLEN := Lib.hid hlen
  have HGZ := Lib.hid hgz
  have HGX := Lib.hid hgx
  clear hG hGn hGa hL hG0 hlen hg hgz hgx hM
  go_enter Tryz.func115, Tryz.ntmps115
  go_wp2_with fail
  go_loopw [3, 10] (fun v i wr => ∃ k : Nat, k ≤ n ∧ i = .int .i64 k ∧ OB w.heap.size w v (G k).length ((G k).map bv) wr) (fun _ i _ => n - (intOf i).toNat)
  case atStart => exact ⟨0, Nat.zero_le _, rfl, by rw [HG0.out]; exact OB.start _⟩
  case round =>
    obtain ⟨k, hk, rfl, hb⟩ := hrel
    obtain ⟨D, cd, rfl, hd1, hd2, hd3⟩ := hb.slice
    have hgl := HLEN.out k hk
    by_cases hlt : k < n
    · obtain ⟨b, off, u, rfl, hbb, hu, hc⟩ := hA.at_ hlt
      have hkl : k < ts.length := by omega
      have hzk := hsz ts[k] (List.getElem_mem hkl)
      have hcell : wr.cell? ⟨b, off + k, none⟩ = some (.string ts[k]) := by
        rw [hb.bel.cell hbb, hc]
        simp only [List.getElem?_map, List.getElem?_eq_getElem hkl, Option.map_some] at hu
        exact hu.symm
      have hlt' : (k : Int) < n := by omega
      have hg := HGN.out k hkl
      generalize ts[k] = t at *
      obtain ⟨Lk, hLk⟩ : ∃ Lk, Lk = (G k).length := ⟨_, rfl⟩
      rw [← hLk] at hb hgl ⊢
      clear hc hu
      by_cases hzt : t.data.toList = zz
      · have heq : (t.toList == [122, 122]) = true := by rw [str_is, hzt]; rfl
        rw [hzt, HGZ.out] at hg
        have hglen : (G (k + 1)).length = Lk + M := by rw [hg, List.length_append, ← hLk]; simp
        have hgmap : (G (k + 1)).map bv = (G k).map bv ++ List.replicate M (.int .u8 0) := by rw [hg, List.map_append]; simp [bv]
        have HGL := Lib.hid hglen
        have HGM := Lib.hid hgmap
        clear hg hzt hglen hgmap hLk hzk
        go_wp2_with (at_builtin; go_loud (refine wpList_append_zeros rfl _ _ 23 3 rfl 5 i0 (.int .u8 0) 1 .i64 .i64 Tryz.underlying23 Tryz.underlying3 hi hz0 hz1 hz2 rfl rfl hb rfl (m := M) rfl (by omega) (by unfold maxLen; omega) (by omega) ?_))
        intro v' w2 hb3 _ _ _
        go_wp2
        go_roundw
        case rel => exact ⟨k + 1, by omega, by go_num, by rw [HGL.out, HGM.out]; exact hb3⟩
        case measure => simp [intOf]; omega
      · have heq : (t.toList == [122, 122]) = false := by rw [str_is, beq_eq_false_iff_ne]; exact hzt
        rw [HGX.out _ hzt] at hg
        have hpu := fun w h => pu16_any t hzk w h
        have hv := val16_le t.data.toList
        generalize val16 t.data.toList = x at *
        obtain ⟨q, hq⟩ : ∃ q, q = x / 256 := ⟨_, rfl⟩
        have hdq : (x : Int) / 256 = q := by omega
        have hwq : IntKind.u8.wrap (q : Int) = q := by rw [IntKind.wrap_u8]; omega
        have hwx : IntKind.u8.wrap (x : Int) = (x : Int) % 256 := by rw [IntKind.wrap_u8]
        have hglen : (G (k + 1)).length = Lk + 2 := by rw [hg, List.length_append, ← hLk]; rfl
        have hgmap : (G (k + 1)).map bv = (G k).map bv ++ [.int .u8 q, .int .u8 ((x : Int) % 256)] := by
          rw [hg, List.map_append, unword, ← hq, byte_wrap, byte_val q (by omega)]; rfl
        have HGL := Lib.hid hglen
        have HGM := Lib.hid hgmap
        have HPU := Lib.hid hpu
        have HLH := Lib.hid (HLL.out.below hb.bel (Nat.le_refl _))
        clear hg hzt hglen hgmap hLk hzk hpu hq
        go_wp2_with (go_at_call 139; refine (HPU.out _ HLH.out).mono ?_; rintro e w1 ⟨er, rfl, hb1⟩; refine Hid.out ?_)
        refine Lib.hid ?_
        have hb2 := hb.keep hb1 (Nat.le_refl _)
        go_wp2_with (at_builtin; go_loud (refine wpList_append_ob rfl _ _ 23 23 rfl 5 i0 (.int .u8 0) 1 Tryz.underlying23 hi hz0 hz1 hz2 rfl (hb2.alloc _) rfl rfl (Src.ofSlice _ Tryz.underlying23 ⟨w1.heap.size, 0, none⟩ 2 2 [.int .u8 q, .int .u8 ((x : Int) % 256)] rfl (news_at w1 _ _) (by intro u hu; simp at hu; rcases hu with rfl | rfl <;> rfl)) ?c1 ?c2 ?_))
        case c1 => unfold maxLen; omega
        case c2 => omega
        intro v' w2 hb3 _ _ _
        go_wp2
        go_roundw
        case rel => exact ⟨k + 1, by omega, by go_num, by rw [HGL.out, HGM.out]; exact hb3⟩
        case measure => simp [intOf]; omega
    · obtain rfl : k = n := by omega
      have hlt' : ¬ (k : Int) < k := by omega
      have hb' := hb.bel
      have hcv := run_string_of (P := Tryz.prog) wr 23 9 5 _ D (G k).length (G k) Tryz.underlying23 Tryz.underlying5 Tryz.underlying9 hb.sl (fun h => (hd3 h).1) cd
      obtain ⟨C, eC⟩ : ∃ C : ByteArray, C = ⟨(G k).toArray⟩ := ⟨_, rfl⟩
      rw [← eC] at hcv
      have EC := Lib.hid eC
      have HB := Lib.hid hb'
      generalize (G k).length = Lk at *
      clear eC hb hb'
      go_wp2
      go_ret
      exact ⟨by rw [EC.out]; rfl, HB.out⟩
end Go.Proofs.YtkdknfedieeenaaGreatDoor
