/- The walk of ActionOf. -/
import Derived.Test.YtlofbgbbbpmodaaActQ
import Derived.Test.YtlofbgbbbpmodaaObw
import Derived.Outline
namespace Go.Proofs.Ytlofbgbbbpmodaa
open Go.RowKit
set_option linter.unusedVariables false
set_option linter.unusedSimpArgs false
set_option maxRecDepth 20000
attribute [local simp] putsF isV wordOf Deps Region.binds Region.wanted Act.put wantedX isB
theorem agg_of (a : Int × ByteArray × Bool) : actV a = .agg #[.int .i64 a.1, .string a.2.1, .bool a.2.2, .slice none 0 0] := rfl
/-- A record by which records say nothing, of so many. -/
def bdR (N : Nat) (r : RecT) : Bool := r.2.1 == 6 || (r.2.1 == 2 || (r.2.1 == 5 && decide (1 < N)))
theorem any_snoc (p : RecT → Bool) (rs : List RecT) {k : Nat} {r : RecT} (h : rs[k]? = some r) : (rs.take (k + 1)).any p = ((rs.take k).any p || p r) := by
  rw [List.take_add_one, h]; simp
theorem same_agg (a : Int × ByteArray × Bool) (w : World) : Calls Try.prog 10 #[actV a, actV a] w fun e w' => e = .returned (.bool true) ∧ Below w.heap.size w w' := same_self a.1 a.2.1 a.2.2 w
set_option maxHeartbeats 6400000 in
theorem actionOf_walk (w : World) (A : Option Addr) (n c : Nat) (ds : List ActT) (hV : Acts5 w A n c ds) (how : Int) (hhw : (Lit.int .u8 how).wf = true)
    (C : Option Addr) (p q : Nat) (zs : List Int) (hT : SlView w C p q (zs.map (Value.int .u8))) (hl : zs.length = p) (hzw : ∀ z ∈ zs, (Lit.int .u8 z).wf = true) (hq : q ≤ 140737488351232) :
    Calls Try.prog 5 #[.slice A n c, .int .u8 how, .slice C p q] w fun e w' => e = .returned (.bool true) ∧ Below w.heap.size w w' := by
  have hhd := u8_wf hhw
  obtain ⟨h, rfl⟩ : ∃ kn : Nat, how = kn := ⟨how.toNat, by omega⟩
  have hz : ∀ z ∈ zs, 0 ≤ z ∧ z < 256 := fun z h => u8_wf (hzw z h)
  have hpq := hT.le
  have TG := Lib.hid (fun (w' : World) (hS : Sl w' w'.heap.size 1 C p (zs.map (Value.int .u8))) => target_any h (by omega) C p q zs w' hS hz (by omega))
  have HT := Lib.hid hT.sl
  have HV := Lib.hid hV
  clear hV hT hhw hz hzw hl
  go_enter Try.func5, Try.ntmps5
  go_wp2_with fail
  refine (awake14_any _).mono ?_
  rintro e w1 ⟨rfl, hb1⟩
  have HB1 := Lib.hid hb1
  clear hb1
  go_wp2_with fail
  refine (TG.out _ ((HT.out.below HB1.out).more HB1.out.size)).mono ?_
  rintro e w2 ⟨s, rfl, hs84, hmay, hb2⟩
  obtain ⟨LS, hLS⟩ : ∃ LS, labelsOf s = some LS := Option.isSome_iff_exists.1 hmay
  have HTG := Lib.hid (tgt_ofL s LS hLS)
  have OF := Lib.hid (fun w => of14_any s LS w (by omega) hLS)
  have HB2 := Lib.hid (below_trans HB1.out HB1.out.size hb2)
  have OC := Lib.hid (of_cname2 w2.heap.size 0 1 s (w2.alloc (.cells #[.string ⟨#[]⟩, .int .u16 5, .int .u32 0, .string s] 31)) (by simp) ((Cs.new w2 #[.string ⟨#[]⟩, .int .u16 5, .int .u32 0, .string s] _ _).get 1 _) ((Cs.new w2 #[.string ⟨#[]⟩, .int .u16 5, .int .u32 0, .string s] _ _).get 3 _) (by omega))
  rw [HTG.out] at OC
  obtain ⟨V, hv⟩ : ∃ v, ofL s LS = v := ⟨_, rfl⟩
  rw [hv] at OC OF
  have SS := Lib.hid (fun w => same_agg V w)
  obtain ⟨k, t, b⟩ := V
  unfold actV at OC SS OF
  simp only at OC SS OF
  clear hv hb2 hmay hLS HTG
  go_wp2_with fail
  refine OC.out.mono ?_
  rintro e w3 ⟨rfl, hb3⟩
  have HB3 := Lib.hid (below_trans (HB2.out.alloc HB2.out.size (.cells #[.string ⟨#[]⟩, .int .u16 5, .int .u32 0, .string s] 31)) (HB2.out.alloc HB2.out.size _).size hb3)
  clear hb3 OC
  go_upto_region 5 with fail
  obtain ⟨W, hW⟩ : ∃ W, W = w3.alloc (.cells #[.int .i64 k, .string t, .bool b, .slice none 0 0] 34) := ⟨_, rfl⟩
  rw [← hW]
  obtain ⟨g, hg⟩ : ∃ g, g = w3.heap.size := ⟨_, rfl⟩
  have hC : Cs W g [.int .i64 k, .string t, .bool b, .slice none 0 0] := by rw [hW, hg]; exact Cs.new w3 _ _ _
  have HBW := Lib.hid (show Below w.heap.size w W by rw [hW]; exact HB3.out.alloc HB3.out.size _)
  have HC := Lib.hid hC
  have HG := Lib.hid hg
  rw [← hg]
  clear hC hW hg
  refine wp_region_goesG data_follows (fun x => by simp [putsF, Act.put]; rfl) W.heap.size W
    [isV (.bool true), isV (.bool false), isV (.bool false), isV (.agg #[.int .i64 k, .string t, .bool b, .slice none 0 0]), isV (.string s), isV (.agg #[.int .i64 k, .string t, .bool b, .slice none 0 0]), isV (.bool true), isV (.bool false), isV (.bool false)]
    (by kernel_rfl) (by kernel_rfl) (by kernel_rfl) rfl ?_ (Below.refl _ _) ?_ ?_
  · repeat (first | exact trivial | refine ⟨isV_stays _, ?_⟩)
  · refine ⟨?_, ?_, ?_, ?_, ?_, ?_, ?_, ?_, ?_, trivial⟩
    all_goals
      intro x wx hR hd
      simp at hd ⊢
    all_goals try simp [hd]
    · go_simp; exact next_same _ rfl rfl hR
    · go_simp; exact next_same _ rfl rfl hR
    · go_simp; exact next_same _ rfl rfl hR
    · have q := HC.out.below hR
      have k0 := q.get 0 _
      have k1 := q.get 1 _
      have k2 := q.get 2 _
      have k3 := q.get 3 _
      clear q
      go_simp; exact next_same _ rfl rfl hR
    · go_simp; exact next_same _ rfl rfl hR
    · go_simp
      go_at_call 12
      refine (OF.out wx).mono ?_
      rintro e w2 ⟨rfl, hb⟩
      exact next_call _ rfl rfl hR hR.size hb
    · go_simp
      go_at_call 10
      refine (SS.out wx).mono ?_
      rintro e w2 ⟨rfl, hb⟩
      exact next_call _ rfl rfl hR hR.size hb
    · go_simp; exact next_same _ rfl rfl hR
    · go_simp; exact next_same _ rfl rfl hR
  · intro x w4 hR hx
    simp [AllWords] at hx
    have h8 : x 8 = .bool false := by simp [hx]
    have HB4 := Lib.hid (below_trans HBW.out HBW.out.size hR)
    rw [h8]
    clear hx h8 hR HC
    go_wp2_with fail
    refine (records_any A n c 6 ds w4 (HV.out.at_.below HB4.out) HV.out.most (by decide)).mono ?_
    rintro e w5 ⟨v1, rfl, ho1⟩
    obtain ⟨rs, hrs⟩ : ∃ rs, rs = recsOf ds 6 := ⟨_, rfl⟩
    have hcn : ∀ r ∈ rs, r.2.1 = 5 → ∃ LS, labelsOf r.2.2.2 = some LS ∧ r.2.2.2.size ≤ 254 := by
      intro r hr h5
      rw [hrs] at hr
      obtain ⟨a, -, rfl⟩ := List.mem_map.1 hr
      exact rec_cname a h5
    rw [← hrs] at ho1
    obtain ⟨N, hN⟩ : ∃ N, rs.length = N := ⟨_, rfl⟩
    have hN8 : N ≤ 6 := by rw [← hN, hrs, recsOf_len]; omega
    obtain ⟨A1, c1, rfl, hnc, hcm, hA1⟩ := ho1.slice
    have hr4 : Rows4 w5 A1 c1 rs := ⟨ho1.sl, hA1, by omega⟩
    have hd6 : ∀ r ∈ rs, r.2.2.2.size ≤ 140737488355328 := by
      intro r hr
      rw [hrs] at hr
      obtain ⟨a, ha, rfl⟩ := List.mem_map.1 hr
      have := recOf_data a
      omega
    have OA := Lib.hid (of_all A1 c1 rs w5 hr4 hd6)
    rw [hN] at OA
    have HR5 := Lib.hid hr4.recs
    have HN := Lib.hid hN
    have HCN := Lib.hid hcn
    have HB5 := Lib.hid (below_trans HB4.out HB4.out.size ho1.bel)
    rw [hN]
    clear ho1 hrs hN hA1 hr4 hd6 hcn hnc hcm HB4 HBW HB1 HB2 HB3
    go_wp2_with fail
    refine OA.out.mono ?_
    rintro e w6 ⟨bk, bs, bw, BA, bn, bc, is, rfl, hb6, HCASE⟩
    have HCS := Lib.hid HCASE
    clear HCASE
    obtain ⟨W6, hW6⟩ : ∃ W6, W6 = w6.alloc (.cells #[.int .i64 bk, .string bs, .bool bw, .slice BA bn bc] 34) := ⟨_, rfl⟩
    obtain ⟨g6, hg6⟩ : ∃ g6, g6 = w6.heap.size := ⟨_, rfl⟩
    have hC6 : Cs W6 g6 [.int .i64 bk, .string bs, .bool bw, .slice BA bn bc] := by rw [hW6, hg6]; exact Cs.new w6 _ _ _
    have HC6 := Lib.hid hC6
    have HB6 := Lib.hid (show Below w.heap.size w W6 by rw [hW6]; exact (below_trans HB5.out HB5.out.size hb6).alloc (below_trans HB5.out HB5.out.size hb6).size _)
    have HR6 := Lib.hid (show Recs W6 A1 rs by rw [hW6]; exact (HR5.out.below hb6).below ((Below.refl _ _).alloc (Nat.le_refl _) _))
    have HW6 := Lib.hid hW6
    have HG6 := Lib.hid hg6
    have HX6 : Hid (∀ l, Recs w6 BA l → Recs W6 BA l) := Lib.hid (fun l hl => by rw [hW6]; exact hl.below ((Below.refl _ _).alloc (Nat.le_refl _) _))
    clear hC6 hW6 hg6 hb6 HR5 HB5
    obtain ⟨z0, hz0⟩ : ∃ z : Bool, ((N : Int) == 0) = z := ⟨_, rfl⟩
    have HZ0 := Lib.hid hz0
    go_wp2_with fail
    rw [← HW6.out, ← HG6.out]
    have HRW := HR6
    go_loopw [13, 49] (fun v i wr => ∃ k' : Nat, ∃ v0 : Bool, k' ≤ N ∧ i = .int .i64 k' ∧ v = .bool v0 ∧ Hid (v0 = (z0 || (rs.take k').any (bdR N))) ∧ Hid (Below W6.heap.size W6 wr)) (fun _ i _ => N - (intOf i).toNat)
    case atStart => exact ⟨0, z0, Nat.zero_le _, rfl, rfl, Lib.hid (by simp), Lib.hid (Below.refl _ _)⟩
    case round =>
      obtain ⟨j, v0, hj, rfl, rfl, HV0, HB⟩ := hrel
      by_cases hlt : j < N
      · have hlt' : (j : Int) < N := by omega
        obtain ⟨r, hr⟩ : ∃ r, rs[j]? = some r := ⟨_, List.getElem?_eq_getElem (by rw [HN.out]; exact hlt)⟩
        obtain ⟨b', off, rfl, hb, y0, y1, y2, y3⟩ := (HR6.out.below HB.out) j _ hr
        have HS := Lib.hid (any_snoc (bdR N) rs hr)
        clear hr
        cases v0 with
        | true =>
          go_wp2_with fail
          go_round
          case rel => exact ⟨j + 1, true, by omega, by go_num, rfl, Lib.hid (by have := HV0.out; rw [HS.out, ← Bool.or_assoc, ← this]; rfl), Lib.hid (HB.out.alloc HB.out.size _)⟩
          case measure => simp [intOf]; omega
        | false =>
          cases e6 : (r.2.1 == 6) with
          | true =>
            have HD := Lib.hid (show bdR N r = true by unfold bdR; rw [e6]; rfl)
            go_wp2_with fail
            go_round
            case rel => exact ⟨j + 1, true, by omega, by go_num, rfl, Lib.hid (by have := HV0.out; rw [HS.out, ← Bool.or_assoc, ← this, HD.out]; rfl), Lib.hid (HB.out.alloc HB.out.size _)⟩
            case measure => simp [intOf]; omega
          | false =>
            cases e2 : (r.2.1 == 2) with
            | true =>
              have HD := Lib.hid (show bdR N r = true by unfold bdR; rw [e6, e2]; rfl)
              go_wp2_with fail
              go_round
              case rel => exact ⟨j + 1, true, by omega, by go_num, rfl, Lib.hid (by have := HV0.out; rw [HS.out, ← Bool.or_assoc, ← this, HD.out]; rfl), Lib.hid (HB.out.alloc HB.out.size _)⟩
              case measure => simp [intOf]; omega
            | false =>
              cases e5 : (r.2.1 == 5) with
              | false =>
                have HD := Lib.hid (show bdR N r = false by unfold bdR; rw [e6, e2, e5]; rfl)
                go_wp2_with fail
                go_round
                case rel => exact ⟨j + 1, false, by omega, by go_num, rfl, Lib.hid (by have := HV0.out; rw [HS.out, ← Bool.or_assoc, ← this, HD.out]; rfl), Lib.hid (HB.out.alloc HB.out.size _)⟩
                case measure => simp [intOf]; omega
              | true =>
                by_cases hn1 : 1 < N
                · have hn1i : (1 : Int) < N := by omega
                  have hn1d : decide ((1 : Int) < N) = true := by simpa using hn1i
                  have HD := Lib.hid (show bdR N r = true by unfold bdR; rw [e6, e2, e5, decide_eq_true hn1]; rfl)
                  go_wp2_with fail
                  go_round
                  case rel => exact ⟨j + 1, true, by omega, by go_num, rfl, Lib.hid (by have := HV0.out; rw [HS.out, ← Bool.or_assoc, ← this, HD.out]; rfl), Lib.hid (HB.out.alloc HB.out.size _)⟩
                  case measure => simp [intOf]; omega
                · have hn1i : ¬ (1 : Int) < N := by omega
                  have hn1d : decide ((1 : Int) < N) = false := by simpa using hn1i
                  have HD := Lib.hid (show bdR N r = false by unfold bdR; rw [e6, e2, e5, decide_eq_false hn1]; rfl)
                  go_wp2_with fail
                  go_round
                  case rel => exact ⟨j + 1, false, by omega, by go_num, rfl, Lib.hid (by have := HV0.out; rw [HS.out, ← Bool.or_assoc, ← this, HD.out]; rfl), Lib.hid (HB.out.alloc HB.out.size _)⟩
                  case measure => simp [intOf]; omega
      · have hlt' : ¬ (j : Int) < N := by omega
        have hv0 := HV0.out
        rw [List.take_of_length_le (by rw [HN.out]; omega)] at hv0
        have HB7 := Lib.hid (below_trans HB6.out HB6.out.size HB.out)
        have hC7 := HC6.out.below HB.out
        have d0 := hC7.get 0 _
        have d1 := hC7.get 1 _
        have d2 := hC7.get 2 _
        have d3 := hC7.get 3 _
        have HC7 := Lib.hid hC7
        have HR7 := Lib.hid (HR6.out.below HB.out)
        clear hC7
        rcases HCS.out with ⟨rfl, rfl, rfl, rfl, rfl, rfl, rfl, hcc⟩ | ⟨r, hr, h5, rfl, rfl, rfl, rfl, hvv⟩ | ⟨hne, hgood, rfl, rfl, rfl, rfl, hbn, hrr⟩
        · have hv1 : v0 = true := by
            rw [hv0]
            rcases hcc with h | ⟨h, h2⟩
            · subst h
              have : N = 0 := by rw [← HN.out]; rfl
              have hz := HZ0.out
              rw [← hz, this]; rfl
            · obtain ⟨r, hr, hb⟩ := List.any_eq_true.1 h
              have : rs.any (bdR N) = true := List.any_eq_true.2 ⟨r, hr, by
                unfold badT at hb
                unfold bdR
                by_cases h6 : r.2.1 = 6
                · simp [h6]
                by_cases hh2 : r.2.1 = 2
                · simp [hh2]
                have hh5 : r.2.1 = 5 := by simpa [h6, hh2] using hb
                have : 1 < N := by
                  rw [← HN.out]
                  match rs, hr, h2 with
                  | [], hr, _ => cases hr
                  | [q], hr, h2 =>
                    simp at hr
                    subst hr
                    exact absurd hh5 (h2 r rfl)
                  | _ :: _ :: _, _, _ => simp
                simp [hh5, this]⟩
              rw [this]; simp
          subst hv1
          clear hv0 hcc
          have SZ := Lib.hid (fun w => same_agg (0, ⟨#[]⟩, false) w)
          unfold actV at SZ
          simp only at SZ
          go_wp2_with fail
          refine (SZ.out _).mono ?_
          rintro e w8 ⟨rfl, hb8⟩
          have HB8 := Lib.hid (below_trans HB7.out HB7.out.size hb8)
          clear hb8
          go_wp2_with fail
          go_ret
          exact ⟨rfl, HB8.out⟩
        · have hN1 : N = 1 := by rw [← HN.out, hr]; rfl
          have hv1 : v0 = false := by
            rw [hv0, ← HZ0.out, hN1, hr]
            simp [bdR, h5]
          subst hv1
          obtain ⟨b1, off, rfl, hlt1, y0, y1, y2, y3⟩ := HR7.out 0 r (by rw [hr]; rfl)
          rw [h5] at y1
          simp only [Nat.zero_mul, Nat.add_zero] at y0 y1 y2 y3
          have hNp : (0 : Int) < N := by omega
          have hNp' : 0 < N := by omega
          obtain ⟨LS', hLS', hd254⟩ := HCN.out r (by rw [hr]; simp) h5
          have OF2 := Lib.hid (fun w => of14_any r.2.2.2 LS' w hd254 hLS')
          rw [← tgt_ofL _ _ hLS', hvv] at OF2
          have SS2 := Lib.hid (fun w => same_agg (bk, bs, bw) w)
          unfold actV at OF2 SS2
          simp only at OF2 SS2
          have HY3 := Lib.hid y3
          have HLT1 := Lib.hid hlt1
          have HHN := Lib.hid (And.intro hNp hNp')
          clear hv0 hr h5 hvv hLS' hd254 hN1 y0 y2 y3
          go_upto_region 18 with fail
          clear y1 hNp hNp' hlt1 d0 d1 d2 d3
          refine wp_region_goesG data_follows (fun x => by simp [putsF, Act.put]; rfl) wr.heap.size wr
            [isV (.bool true), isV (.bool true), isV (.agg #[.int .i64 bk, .string bs, .bool bw, .slice none 0 0]), isV (.slice (some ⟨b1, off, none⟩) N c1), isV (.pointer (some ⟨b1, off, none⟩)), isV (.pointer (some ⟨b1, off + 3, none⟩)), isV (.string r.2.2.2), isV (.agg #[.int .i64 bk, .string bs, .bool bw, .slice none 0 0]), isV (.bool true), isV (.bool true), isV (.bool true)]
            (by kernel_rfl) (by kernel_rfl) (by kernel_rfl) rfl ?_ (Below.refl _ _) ?_ ?_
          · repeat (first | exact trivial | refine ⟨isV_stays _, ?_⟩)
          · refine ⟨?_, ?_, ?_, ?_, ?_, ?_, ?_, ?_, ?_, ?_, ?_, trivial⟩
            all_goals
              intro x wx hR hd
              simp at hd ⊢
            all_goals try simp [hd]
            · go_simp; exact next_same _ rfl rfl hR
            · go_simp; exact next_same _ rfl rfl hR
            · have q := HC7.out.below hR
              have k0 := q.get 0 _
              have k1 := q.get 1 _
              have k2 := q.get 2 _
              have k3 := q.get 3 _
              clear q
              go_simp; exact next_same _ rfl rfl hR
            · go_simp; exact next_same _ rfl rfl hR
            · have hNp := HHN.out.1
              have hNp' := HHN.out.2
              go_simp; exact next_same _ rfl rfl hR
            · go_simp; exact next_same _ rfl rfl hR
            · have y3 := (hR.cell (p := ⟨b1, off + 3, none⟩) HLT1.out).trans HY3.out
              go_simp; exact next_same _ rfl rfl hR
            · go_simp
              go_at_call 12
              refine (OF2.out wx).mono ?_
              rintro e w2 ⟨rfl, hb⟩
              exact next_call _ rfl rfl hR hR.size hb
            · go_simp
              go_at_call 10
              refine (SS2.out wx).mono ?_
              rintro e w2 ⟨rfl, hb⟩
              exact next_call _ rfl rfl hR hR.size hb
            · go_simp; exact next_same _ rfl rfl hR
            · go_simp; exact next_same _ rfl rfl hR
          · intro x wx hR hx
            simp [AllWords] at hx
            have h10 : x 10 = .bool true := by simp [hx]
            have HB8 := Lib.hid (below_trans HB7.out HB7.out.size hR)
            rw [h10]
            clear hx h10 hR
            go_wp2_with fail
            go_ret
            exact ⟨rfl, HB8.out⟩
        · obtain ⟨r, hr⟩ : ∃ r, rs[0]? = some r := by
            match rs, hne with
            | r :: _, _ => exact ⟨r, rfl⟩
          have hgr : ∀ r ∈ rs, badT r = false := by
            intro r hr
            cases e : badT r with
            | false => rfl
            | true => rw [List.any_eq_true.2 ⟨r, hr, e⟩] at hgood; cases hgood
          have hNp' : 0 < N := by rw [← HN.out]; exact List.length_pos_iff.2 hne
          have hNp : (0 : Int) < N := by omega
          have hv1 : v0 = false := by
            have h1 : rs.any (bdR N) = false := by
              cases e : rs.any (bdR N) with
              | false => rfl
              | true =>
                obtain ⟨q, hq, hb⟩ := List.any_eq_true.1 e
                have := hgr q hq
                unfold badT at this
                unfold bdR at hb
                simp only [Bool.or_eq_false_iff] at this
                rw [this.1, this.2.1, this.2.2] at hb
                simp at hb
            have h2 : z0 = false := by rw [← HZ0.out]; simp; omega
            rw [hv0, h1, h2]; rfl
          subst hv1
          have hr5 : (r.2.1 == 5) = false := by
            have := hgr r (List.mem_of_getElem? hr)
            unfold badT at this
            simp only [Bool.or_eq_false_iff] at this
            exact this.2.2
          obtain ⟨b1, off, rfl, hlt1, y0, y1, y2, y3⟩ := HR7.out 0 r hr
          simp only [Nat.zero_mul, Nat.add_zero] at y0 y1 y2 y3
          rw [hbn, HN.out] at d3
          have SR := Lib.hid (fun (w : World) h h' => same_recs BA (some ⟨b1, off, none⟩) bc c1 rs rs w h h' (by rw [HN.out]; unfold maxLen; omega) (by rw [HN.out]; unfold maxLen; omega))
          rw [HN.out] at SR
          simp only [decide_true] at SR
          have HRB := Lib.hid ((HX6.out rs hrr).below HB.out)
          clear hv0 hr hne hgr hgood hrr hbn
          go_wp2_with fail
          refine (SR.out _ HRB.out HR7.out).mono ?_
          rintro e w8 ⟨rfl, hb8⟩
          have HB8 := Lib.hid (below_trans HB7.out HB7.out.size hb8)
          clear hb8
          go_wp2_with fail
          go_ret
          exact ⟨rfl, HB8.out⟩
end Go.Proofs.Ytlofbgbbbpmodaa
