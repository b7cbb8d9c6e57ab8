/- The walk of RankFirst. -/
import Derived.Test.YtioichenjoeonaaRankB
import Derived.Test.YtioichenjoeonaaView
namespace Go.Proofs.Ytioichenjoeonaa
open Go.RowKit
set_option linter.unusedVariables false

/-- What the law makes of a byte. -/
def keyB (c : UInt8) : Nat := c.toNat / 64 * 8 + c.toNat % 8
theorem keyB_lt (c : UInt8) : keyB c < 64 := by have := c.toNat_lt; unfold keyB; omega
theorem keyB_hi (c : UInt8) : keyB c / 8 = c.toNat / 64 := by have := c.toNat_lt; unfold keyB; omega
theorem keyB_lo (c : UInt8) : keyB c % 8 = c.toNat % 8 := by unfold keyB; omega
set_option maxHeartbeats 1600000 in
theorem rankFirst_walk (w : World) (A : Option Addr) (n c : Nat) (zs : List Int) (hV : SlView w A n c (zs.map (Value.int .u8))) (hl : zs.length = n) (hz : ∀ z ∈ zs, (Lit.int .u8 z).wf = true) (hc : c ≤ 1048576) :
    Calls Try.prog 11 #[.slice A n c] w fun e w' => e = .returned (.bool true) ∧ Below w.heap.size w w' := by
  obtain ⟨l, hzl⟩ := bytes_of zs hz
  rw [hzl] at hV
  have hnc := hV.le
  have hS : Sl w w.heap.size 1 A n (l.map bv) := hV.sl
  have hll : l.length = n := by simpa using hS.1
  obtain ⟨i0, hi, hz0, hz1, hz2⟩ : ∃ i : TypeInfo, Try.prog.info? 47 = some i ∧ i.zero = some (.complex .f64 0 0) ∧ i.size = 1 ∧ i.bytes = 16 := ⟨_, rfl, by kernel_rfl, by kernel_rfl, by kernel_rfl⟩
  clear hzl hz hl hV
  have hn : n ≤ 1048576 := by omega
  go_enter Try.func11, Try.ntmps11
  go_wp2_with fail
  refine (awake18_any _).mono ?_
  rintro e w1 ⟨rfl, hb1⟩
  have hz1' := hb1.size
  go_wp2_with fail
  go_loopw [3, 5, 13] (fun v s i wr => ∃ k : Nat, k ≤ n ∧ i = .int .i64 k ∧ Buf w.heap.size 47 w v k ((l.take k).map fun c => cx (keyB c)) wr) (fun _ _ i _ => n - (intOf i).toNat)
  case atStart => exact ⟨0, Nat.zero_le _, rfl, Buf.nil _ _ _ hb1 hz1'⟩
  case round =>
    obtain ⟨k, hk, rfl, hbuf⟩ := hrel
    by_cases hlt : k < n
    · obtain ⟨g, off, u, rfl, hbb, hu, hcell⟩ := (hS.below hbuf.below).at_ hlt
      have hkl : k < l.length := by omega
      rw [List.getElem?_map, List.getElem?_eq_getElem hkl, Option.map_some, Option.some.injEq] at hu
      subst hu
      have hnext : Hid ((l.take (k + 1)).map (fun c => cx (keyB c)) = (l.take k).map (fun c => cx (keyB c)) ++ [.complex .f64 (fl ((l[k]'hkl).toNat / 64)) (fl ((l[k]'hkl).toNat % 8))]) := Lib.hid (by
        rw [List.take_succ_eq_append_getElem hkl, List.map_append]
        simp only [List.map_cons, List.map_nil, cx, keyB_hi, keyB_lo])
      obtain ⟨q, hq⟩ : ∃ q, (l[k]'hkl).toNat = q := ⟨_, rfl⟩
      have hq256 : q < 256 := by rw [← hq]; exact UInt8.toNat_lt _
      rw [show bv (l[k]'hkl) = .int .u8 (q : Int) by rw [← hq]; rfl] at hcell
      rw [hq] at hnext
      clear hkl hq hll
      have hi2 : IntKind.i64.wrap ((k : Int) + 1) = (k : Int) + 1 := IntWalk.i64_in _ (by omega)
      go_wp2_with (at_builtin; refine wpList_append_one rfl _ _ 58 rfl w.heap.size 47 i0 _ 16 Try.underlying58 hi hz0 hz1 hz2 rfl hbuf rfl rfl rfl ?c1 ?c2 ?_)
      case c1 => unfold maxLen; omega
      case c2 => omega
      intro v' w2 hb2
      have ef1 : floatOfInt .f64 ((q : Int) / 64) = fl (q / 64) := by unfold fl; rw [Int.natCast_ediv]; rfl
      have ef2 : floatOfInt .f64 ((q : Int) % 8) = fl (q % 8) := by unfold fl; rw [Int.natCast_emod]; rfl
      rw [ef1, ef2] at hb2
      have hb3 : Buf w.heap.size 47 w v' (k + 1) ((l.take (k + 1)).map fun c => cx (keyB c)) w2 := by
        rw [hnext.out, List.map_take]; exact hb2
      clear ef1 ef2 hb2 hnext hq256
      go_wp2_with fail
      go_roundw
      case rel => exact ⟨k + 1, by omega, by go_num, hb3⟩
      case measure => simp [intOf]; omega
    · obtain rfl : k = n := by omega
      rw [List.take_of_length_le (by omega)] at hbuf
      obtain ⟨ks, hks⟩ : ∃ ks, ks = l.map keyB := ⟨_, rfl⟩
      have hkl : ks.length = k := by rw [hks]; simpa using hll
      have hk64 : ∀ x ∈ ks, x < 64 := by
        intro x hx; rw [hks] at hx; obtain ⟨c, _, rfl⟩ := List.mem_map.1 hx; exact keyB_lt c
      have hmap : l.map (fun c => cx (keyB c)) = ks.map cx := by rw [hks, List.map_map]; rfl
      rw [hmap] at hbuf
      obtain ⟨D, d, rfl, hd1, hd2, hd3⟩ := hbuf.slice
      have hSl := hbuf.sl
      have hbel := hbuf.below
      clear hmap hks hll hS hd3 hz0 hz1 hz2 hi hlt hbuf hb1 hz1'
      go_wp2_with fail
      refine (first_cx D k d ks _ (hSl) hk64 (by unfold maxLen; omega)).mono ?_
      rintro e w2 ⟨r, rfl, hr, rfl⟩
      rcases hr with ⟨rfl, rfl⟩ | ⟨b, rfl, hb, hf⟩
      · go_wp2_with fail
        go_ret
        exact ⟨rfl, hbel⟩
      · have hbk : b < k := by omega
        have hk0 : ((k : Int) == 0) = false := by simp; omega
        have HB := Lib.hid (fun (j k : Nat) (hj : j < 64) (hk : k < 64) w => better_cx j k hj hk w)
        have HF := Lib.hid hf
        have HKL := Lib.hid hkl
        obtain ⟨g, off, u, rfl, hg, hu, hc2⟩ := hSl.at_ hbk
        rw [List.getElem?_map, List.getElem?_eq_getElem hb, Option.map_some, Option.some.injEq] at hu
        subst hu
        have hb64 := hk64 _ (List.getElem_mem hb)
        rw [show cx (ks[b]'hb) = .complex .f64 (fl ((ks[b]'hb) / 8)) (fl ((ks[b]'hb) % 8)) from rfl] at hc2
        clear hf hkl
        have hdkb : decide (k ≤ b) = false := by simp; omega
        have hdb0 : decide ((b : Int) < 0) = false := by simp
        go_wp2_with fail
        clear hdkb hdb0
        go_loopw [45] (fun i wx => ∃ j : Nat, j ≤ k ∧ i = .int .i64 j ∧ wx = wr) (fun i _ => k - (intOf i).toNat)
        case atStart => exact ⟨0, Nat.zero_le _, rfl, rfl⟩
        case round =>
          obtain ⟨j, hj, rfl, rfl⟩ := hrel
          by_cases hlt : j < k
          · have hjl : j < ks.length := by rw [HKL.out]; exact hlt
            have hc3 := hSl.cell j (cx (ks[j]'hjl)) (by rw [List.getElem?_map, List.getElem?_eq_getElem hjl]; rfl)
            rw [show cx (ks[j]'hjl) = .complex .f64 (fl ((ks[j]'hjl) / 8)) (fl ((ks[j]'hjl) % 8)) from rfl] at hc3
            obtain ⟨hle, hlt2⟩ := HF.out j hjl
            have h1 := HB.out (ks[j]'hjl) (ks[b]'hb) (hk64 _ (List.getElem_mem hjl)) hb64
            have h2 := HB.out (ks[b]'hb) (ks[j]'hjl) hb64 (hk64 _ (List.getElem_mem hjl))
            rw [show decide ((ks[j]'hjl) < (ks[b]'hb)) = false by simpa using hle] at h1
            unfold cx at h1 h2
            have H1 := Lib.hid h1
            have hi2 : IntKind.i64.wrap ((j : Int) + 1) = (j : Int) + 1 := IntWalk.i64_in _ (by omega)
            by_cases hjb : j < b
            · rw [show decide ((ks[b]'hb) < (ks[j]'hjl)) = true by simpa using hlt2 hjb] at h2
              have H2 := Lib.hid h2
              have hjbi : (j : Int) < (b : Int) := by omega
              clear hle hlt2 h1 h2
              generalize ks[j]'hjl = x at *
              generalize ks[b]'hb = y at *
              go_wp2_with fail
              refine (H1.out _).mono ?_
              rintro e w1 ⟨rfl, rfl⟩
              go_wp2_with fail
              refine (H2.out _).mono ?_
              rintro e w1 ⟨rfl, rfl⟩
              go_wp2_with fail
              go_roundw
              case rel => exact ⟨j + 1, by omega, by go_num, trivial⟩
              case measure => simp [intOf]; omega
            · have hjbi : ¬ (j : Int) < (b : Int) := by omega
              clear hle hlt2 h1 h2
              generalize ks[j]'hjl = x at *
              generalize ks[b]'hb = y at *
              go_wp2_with fail
              refine (H1.out _).mono ?_
              rintro e w1 ⟨rfl, rfl⟩
              go_wp2_with fail
              go_roundw
              case rel => exact ⟨j + 1, by omega, by go_num, trivial⟩
              case measure => simp [intOf]; omega
          · obtain rfl : j = k := by omega
            go_wp2_with fail
            go_ret
            exact ⟨rfl, hbel⟩
end Go.Proofs.Ytioichenjoeonaa
