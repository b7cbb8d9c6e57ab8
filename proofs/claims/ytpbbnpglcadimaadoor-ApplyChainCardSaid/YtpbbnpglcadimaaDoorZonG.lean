/- The contract of the statements' own sorting of records. -/
import Derived.Test.YtpbbnpglcadimaaDoorZonF
import Derived.Test.YtpbbnpglcadimaaDoorLawZonC
import Derived.Test.YtpbbnpglcadimaaDoorReg8
namespace Go.Proofs.YtpbbnpglcadimaaDoor
open Go.RowKit
set_option linter.unusedVariables false
set_option linter.unusedSimpArgs false
set_option maxRecDepth 20000
attribute [local simp] putsF isV wordOf Deps Region.binds Region.wanted Act.put wantedX isB
/-- Records with one more, unless it is there. -/
def stepS (out : List RecT) (r : RecT) : List RecT := match out.dropWhile (lowB r) with
  | q :: _ => if eqB q r then out else insR out r
  | [] => insR out r
def sortedR (rs : List RecT) : List RecT := rs.foldl stepS []
theorem sortedR_next {rs : List RecT} {k : Nat} {r : RecT} (h : rs[k]? = some r) : sortedR (rs.take (k + 1)) = stepS (sortedR (rs.take k)) r := by
  unfold sortedR; rw [List.take_add_one, h]; simp
theorem stepS_le (out : List RecT) (r : RecT) : (stepS out r).length ≤ out.length + 1 := by
  unfold stepS
  split
  · split
    · omega
    · rw [insR_len]; exact Nat.le_refl _
  · rw [insR_len]; exact Nat.le_refl _
theorem foldl_le : ∀ (rs out : List RecT), (rs.foldl stepS out).length ≤ out.length + rs.length
  | [], out => by simp
  | r :: rs, out => by
    have h1 := foldl_le rs (stepS out r)
    have h2 := stepS_le out r
    rw [List.foldl_cons, List.length_cons]; omega
theorem sortedR_le (rs : List RecT) : (sortedR rs).length ≤ rs.length := by have := foldl_le rs []; simpa [sortedR] using this
theorem step_same {out : List RecT} {r q : RecT} {k : Nat} (h : ∀ q ∈ out.take k, lowB r q = true) (he : ∀ q, out[k]? = some q → lowB r q = false) (hq : out[k]? = some q) (hb : eqB q r = true) : stepS out r = out := by
  obtain ⟨-, h2⟩ := take_while h he
  have hk := (List.getElem?_eq_some_iff.1 hq).1
  unfold stepS
  rw [h2, List.drop_eq_getElem_cons hk]
  have e : out[k] = q := by rw [List.getElem?_eq_getElem hk] at hq; injection hq
  simp only [e, hb, if_true]
theorem step_new {out : List RecT} {r : RecT} {k : Nat} (h : ∀ q ∈ out.take k, lowB r q = true) (he : ∀ q, out[k]? = some q → lowB r q = false) (hb : ∀ q, out[k]? = some q → eqB q r = false) : stepS out r = out.take k ++ r :: out.drop k := by
  obtain ⟨-, h2⟩ := take_while h he
  unfold stepS
  rw [h2]
  cases hd : out.drop k with
  | nil =>
    dsimp only
    rw [insR_at h he, hd]
  | cons q l =>
    have hk : k < out.length := by
      rcases Nat.lt_or_ge k out.length with h | h
      · exact h
      · rw [List.drop_eq_nil_of_le h] at hd; cases hd
    rw [List.drop_eq_getElem_cons hk] at hd
    injection hd with hd1 hd2
    have := hb q (by rw [List.getElem?_eq_getElem hk, hd1])
    dsimp only
    rw [this, insR_at h he, List.drop_eq_getElem_cons hk, hd1, hd2]
    simp
theorem until_mono {k i : Nat} {p : Value → World → Prop} {d : Nat → Bool} {v : Value} {w : World} (h : until_ k p d v w) : until_ k p (setD d i) v w := fun hk => h (setD_false hk)
theorem insR_split_len {out : List RecT} {r : RecT} {k : Nat} (hk : k ≤ out.length) : (out.take k ++ r :: out.drop k).length = out.length + 1 := by
  rw [List.length_append, List.length_cons, List.length_take, List.length_drop]; omega
set_option maxHeartbeats 6400000 in
theorem sorted_any (A : Option Addr) (n c : Nat) (rs : List RecT) (w : World) (h : Recs w A rs) (hl : rs.length = n) (hn : n ≤ 100000) :
    Calls Tryd.prog 30 #[.slice A n c] w fun e w' => ∃ v, e = .returned v ∧ OBM 4 w.heap.size w v (sortedR rs).length (flatR (sortedR rs)) w' := by
  obtain ⟨i0, hi, hz0, hz1, hz2⟩ := info_parts4 rec_info
  have H := Lib.hid h
  have HL := Lib.hid hl
  clear h hl
  go_enter Tryd.func30, Tryd.ntmps30
  go_wp2_with fail
  go_loopw [3, 11] (fun v i wr => ∃ k : Nat, k ≤ n ∧ i = .int .i64 k ∧ Hid (OBM 4 w.heap.size w v (sortedR (rs.take k)).length (flatR (sortedR (rs.take k))) wr)) (fun _ i _ => n - (intOf i).toNat)
  case atStart => exact ⟨0, Nat.zero_le _, rfl, Lib.hid (by simpa [sortedR, flatR] using OBM.start (sz := 4) w)⟩
  case round =>
    obtain ⟨kk, hkk, rfl, HB⟩ := hrel
    by_cases hlt0 : kk < n
    · have hlt0' : (kk : Int) < n := by omega
      obtain ⟨r, hr⟩ : ∃ q, rs[kk]? = some q := ⟨_, List.getElem?_eq_getElem (by rw [HL.out]; exact hlt0)⟩
      obtain ⟨br, ofr, rfl, hbr, z0, z1, z2, z3⟩ := (H.out.below HB.out.bel) kk _ hr
      have HNX := Lib.hid (sortedR_next hr)
      have hle := sortedR_le (rs.take kk)
      obtain ⟨out, hout⟩ : ∃ out, sortedR (rs.take kk) = out := ⟨_, rfl⟩
      rw [hout] at HNX HB hle
      obtain ⟨M, hM⟩ : ∃ M, out.length = M := ⟨_, rfl⟩
      have hM6 : M ≤ 100000 := by rw [List.length_take] at hle; have := HL.out; omega
      rw [hM] at HB
      have HM := Lib.hid hM
      obtain ⟨AO, cO, rfl, hMc, hcm, hAO⟩ := HB.out.slice3
      obtain ⟨W1, hW1⟩ : ∃ W1, W1 = wr.alloc (.cells #[.string r.1, .int .u16 r.2.1, .int .u32 r.2.2.1, .string r.2.2.2] 41) := ⟨_, rfl⟩
      obtain ⟨g, hg⟩ : ∃ g, g = wr.heap.size := ⟨_, rfl⟩
      have hC : Cs W1 g [.string r.1, .int .u16 r.2.1, .int .u32 r.2.2.1, .string r.2.2.2] := by rw [hW1, hg]; exact Cs.new wr _ _ _
      have hbW1 : Below wr.heap.size wr W1 := by rw [hW1]; exact (Below.refl _ _).alloc (Nat.le_refl _) _
      have HW1 := Lib.hid hW1
      have HG := Lib.hid hg
      have HC1 := Lib.hid hC
      have HO1 := Lib.hid (HB.out.keep hbW1 (Nat.le_refl _))
      have HR1 : Hid (RowROk W1 (AO, M, cO, out)) := Lib.hid ⟨HO1.out.sl, fun e => hAO.elim (fun h => h.2.1) (fun ⟨g, h, _⟩ => (by dsimp only at e; rw [h] at e; cases e)), HM.out⟩
      have HB1 := Lib.hid (below_trans HB.out.bel HB.out.bel.size hbW1)
      have HAO : Hid ((AO = none ∧ M = 0 ∧ cO = 0) ∨ ∃ g, AO = some ⟨g, 0, none⟩) := Lib.hid (hAO.elim (fun h => .inl ⟨h.1, h.2.1, h.2.2⟩) (fun ⟨g, h, _⟩ => .inr ⟨g, h⟩))
      clear hr hle hout hM hW1 hg hC hbW1 hAO hcm
      go_wp2_with fail
      rw [← HW1.out, ← HG.out]
      clear z0 z1 z2 z3 hbr
      go_loopw [6] (fun i wr2 => ∃ k : Nat, k ≤ M ∧ i = .int .i64 k ∧ Hid (∀ q ∈ out.take k, lowB r q = true) ∧ Hid (Below W1.heap.size W1 wr2)) (fun i _ => M - (intOf i).toNat)
      case atStart => exact ⟨0, Nat.zero_le _, rfl, Lib.hid (by simp), Lib.hid (Below.refl _ _)⟩
      case round =>
        obtain ⟨k, hk, rfl, HK, HB2⟩ := hrel
        have HC2 := Lib.hid (HC1.out.below HB2.out)
        by_cases hlt : k < M
        · have hlt' : (k : Int) < M := by omega
          obtain ⟨q, hq⟩ : ∃ q, out[k]? = some q := ⟨_, List.getElem?_eq_getElem (by rw [HM.out]; exact hlt)⟩
          obtain ⟨b, off, he, hb, y0, y1, y2, y3⟩ := ((HR1.out.below HB2.out).sl.recs (Nat.le_refl _) HM.out) k _ hq
          dsimp only at he
          subst he
          have HZ := Lib.hid (And.intro y0 (And.intro y1 (And.intro y2 y3)))
          have HQ := Lib.hid hq
          have HHB := Lib.hid hb
          obtain ⟨m, hm⟩ : ∃ m, cmpR q r = m := ⟨_, rfl⟩
          have CM := Lib.hid (fun w => compare8_any q r w)
          rw [hm] at CM
          unfold recV at CM
          have HMM := Lib.hid hm
          clear hq hb y0 y1 y2 y3 hm
          by_cases hm0 : m < 0
          · go_upto_region 6 with fail
            refine wp_region_goesG data_follows (fun x => by simp [putsF, Act.put]; rfl) wr.heap.size wr
              [isV (.int .i64 (k : Nat)), isV (.slice (some ⟨b, off, none⟩) M cO), isV (.int .i64 (M : Nat)), isV (.bool true), isV (.bool true), isV (.slice (some ⟨b, off, none⟩) M cO), isV (.int .i64 (k : Nat)), isV (.pointer (some ⟨b, off + k * 4, none⟩)), isV (.agg #[.string q.1, .int .u16 q.2.1, .int .u32 q.2.2.1, .string q.2.2.2]), isV (.agg #[.string r.1, .int .u16 r.2.1, .int .u32 r.2.2.1, .string r.2.2.2]), isV (.int .i64 m), isV (.bool true), isV (.bool true)]
              (by kernel_rfl) (by kernel_rfl) (by kernel_rfl) rfl ?_ (Below.refl _ _) ?_ ?_
            · repeat (first | exact trivial | refine ⟨isV_stays _, ?_⟩)
            · refine ⟨?_, ?_, ?_, ?_, ?_, ?_, ?_, ?_, ?_, ?_, ?_, ?_, ?_, trivial⟩
              all_goals
                intro x wx hR hd
                simp at hd ⊢
              all_goals try simp [hd]
              · go_simp; exact next_same _ rfl rfl hR
              · go_simp; exact next_same _ rfl rfl hR
              · go_simp; exact next_same _ rfl rfl hR
              · go_simp; exact next_same _ rfl rfl hR
              · go_simp; exact next_same _ rfl rfl hR
              · go_simp; exact next_same _ rfl rfl hR
              · go_simp; exact next_same _ rfl rfl hR
              · go_simp; exact next_same _ rfl rfl hR
              · have y0 := (hR.cell (p := ⟨b, off + k * 4, none⟩) HHB.out).trans HZ.out.1
                have y1 := (hR.cell (p := ⟨b, off + k * 4 + 1, none⟩) HHB.out).trans HZ.out.2.1
                have y2 := (hR.cell (p := ⟨b, off + k * 4 + 2, none⟩) HHB.out).trans HZ.out.2.2.1
                have y3 := (hR.cell (p := ⟨b, off + k * 4 + 3, none⟩) HHB.out).trans HZ.out.2.2.2
                go_simp; exact next_same _ rfl rfl hR
              · have hc := HC2.out.below hR
                have c0 := hc.get 0 _
                have c1 := hc.get 1 _
                have c2 := hc.get 2 _
                have c3 := hc.get 3 _
                clear hc
                go_simp; exact next_same _ rfl rfl hR
              · go_simp
                go_at_call 55
                refine (CM.out wx).mono ?_
                rintro e w2 ⟨rfl, hb⟩
                exact next_call _ rfl rfl hR hR.size hb
              · go_simp; exact next_same _ rfl rfl hR
              · go_simp; exact next_same _ rfl rfl hR
            · intro x wx hR hx
              simp [AllWords] at hx
              have h12 : x 12 = .bool true := by simp [hx]
              have HB3 := Lib.hid (below_trans HB2.out HB2.out.size hR)
              rw [h12]
              clear hx
              go_wp2_with fail
              go_round
              case rel => exact ⟨k + 1, by omega, by go_num, Lib.hid (by rw [List.take_add_one, HQ.out]; intro p hp; exact (List.mem_append.1 hp).elim (fun hp => HK.out p hp) (fun hp => by simp at hp; rw [hp]; unfold lowB; rw [HMM.out]; simpa using hm0)), HB3⟩
              case measure => simp [intOf]; omega
          · have HE : Hid (∀ q, out[k]? = some q → lowB r q = false) := Lib.hid (by
              intro p hp
              rw [HQ.out] at hp
              injection hp with hp
              rw [← hp]
              unfold lowB; rw [HMM.out]; simpa using hm0)
            go_upto_region 6 with fail
            refine wp_region_goesG data_follows (fun x => by simp [putsF, Act.put]; rfl) wr.heap.size wr
              [isV (.int .i64 (k : Nat)), isV (.slice (some ⟨b, off, none⟩) M cO), isV (.int .i64 (M : Nat)), isV (.bool true), isV (.bool true), isV (.slice (some ⟨b, off, none⟩) M cO), isV (.int .i64 (k : Nat)), isV (.pointer (some ⟨b, off + k * 4, none⟩)), isV (.agg #[.string q.1, .int .u16 q.2.1, .int .u32 q.2.2.1, .string q.2.2.2]), isV (.agg #[.string r.1, .int .u16 r.2.1, .int .u32 r.2.2.1, .string r.2.2.2]), isV (.int .i64 m), isV (.bool false), isV (.bool false)]
              (by kernel_rfl) (by kernel_rfl) (by kernel_rfl) rfl ?_ (Below.refl _ _) ?_ ?_
            · repeat (first | exact trivial | refine ⟨isV_stays _, ?_⟩)
            · refine ⟨?_, ?_, ?_, ?_, ?_, ?_, ?_, ?_, ?_, ?_, ?_, ?_, ?_, trivial⟩
              all_goals
                intro x wx hR hd
                simp at hd ⊢
              all_goals try simp [hd]
              · go_simp; exact next_same _ rfl rfl hR
              · go_simp; exact next_same _ rfl rfl hR
              · go_simp; exact next_same _ rfl rfl hR
              · go_simp; exact next_same _ rfl rfl hR
              · go_simp; exact next_same _ rfl rfl hR
              · go_simp; exact next_same _ rfl rfl hR
              · go_simp; exact next_same _ rfl rfl hR
              · go_simp; exact next_same _ rfl rfl hR
              · have y0 := (hR.cell (p := ⟨b, off + k * 4, none⟩) HHB.out).trans HZ.out.1
                have y1 := (hR.cell (p := ⟨b, off + k * 4 + 1, none⟩) HHB.out).trans HZ.out.2.1
                have y2 := (hR.cell (p := ⟨b, off + k * 4 + 2, none⟩) HHB.out).trans HZ.out.2.2.1
                have y3 := (hR.cell (p := ⟨b, off + k * 4 + 3, none⟩) HHB.out).trans HZ.out.2.2.2
                go_simp; exact next_same _ rfl rfl hR
              · have hc := HC2.out.below hR
                have c0 := hc.get 0 _
                have c1 := hc.get 1 _
                have c2 := hc.get 2 _
                have c3 := hc.get 3 _
                clear hc
                go_simp; exact next_same _ rfl rfl hR
              · go_simp
                go_at_call 55
                refine (CM.out wx).mono ?_
                rintro e w2 ⟨rfl, hb⟩
                exact next_call _ rfl rfl hR hR.size hb
              · go_simp; exact next_same _ rfl rfl hR
              · go_simp; exact next_same _ rfl rfl hR
            · intro x wx hR hx
              simp [AllWords] at hx
              have h12 : x 12 = .bool false := by simp [hx]
              have HB3 := Lib.hid (below_trans HB2.out HB2.out.size hR)
              rw [h12]
              clear hx
              obtain ⟨t, ht⟩ : ∃ t, eqB q r = t := ⟨_, rfl⟩
              have EQL := Lib.hid (fun w => rec_eql q r w)
              rw [ht] at EQL
              unfold recV at EQL
              have HTT := Lib.hid ht
              have HZ := Lib.hid (And.intro ((hR.cell (p := ⟨b, off + k * 4, none⟩) HHB.out).trans HZ.out.1) (And.intro ((hR.cell (p := ⟨b, off + k * 4 + 1, none⟩) HHB.out).trans HZ.out.2.1) (And.intro ((hR.cell (p := ⟨b, off + k * 4 + 2, none⟩) HHB.out).trans HZ.out.2.2.1) ((hR.cell (p := ⟨b, off + k * 4 + 3, none⟩) HHB.out).trans HZ.out.2.2.2))))
              have HHB := Lib.hid (Nat.lt_of_lt_of_le HHB.out hR.size)
              have HC2 := Lib.hid (HC2.out.below hR)
              clear ht
              go_upto_region 8 with fail
              refine wp_region_goesG data_follows (fun x => by simp [putsF, Act.put]; rfl) wx.heap.size wx
                [isV (.int .i64 (k : Nat)), isV (.slice (some ⟨b, off, none⟩) M cO), isV (.int .i64 (M : Nat)), isV (.bool true), isV (.bool true), isV (.slice (some ⟨b, off, none⟩) M cO), isV (.int .i64 (k : Nat)), isV (.pointer (some ⟨b, off + k * 4, none⟩)), isV (.agg #[.string q.1, .int .u16 q.2.1, .int .u32 q.2.2.1, .string q.2.2.2]), isV (.agg #[.string r.1, .int .u16 r.2.1, .int .u32 r.2.2.1, .string r.2.2.2]), isV (.bool t), isV (.bool t), isV (.bool t)]
                (by kernel_rfl) (by kernel_rfl) (by kernel_rfl) rfl ?_ (Below.refl _ _) ?_ ?_
              · repeat (first | exact trivial | refine ⟨isV_stays _, ?_⟩)
              · refine ⟨?_, ?_, ?_, ?_, ?_, ?_, ?_, ?_, ?_, ?_, ?_, ?_, ?_, trivial⟩
                all_goals
                  intro x wv hR hd
                  simp at hd ⊢
                all_goals try simp [hd]
                · go_simp; exact next_same _ rfl rfl hR
                · go_simp; exact next_same _ rfl rfl hR
                · go_simp; exact next_same _ rfl rfl hR
                · go_simp; exact next_same _ rfl rfl hR
                · go_simp; exact next_same _ rfl rfl hR
                · go_simp; exact next_same _ rfl rfl hR
                · go_simp; exact next_same _ rfl rfl hR
                · go_simp; exact next_same _ rfl rfl hR
                · have y0 := (hR.cell (p := ⟨b, off + k * 4, none⟩) HHB.out).trans HZ.out.1
                  have y1 := (hR.cell (p := ⟨b, off + k * 4 + 1, none⟩) HHB.out).trans HZ.out.2.1
                  have y2 := (hR.cell (p := ⟨b, off + k * 4 + 2, none⟩) HHB.out).trans HZ.out.2.2.1
                  have y3 := (hR.cell (p := ⟨b, off + k * 4 + 3, none⟩) HHB.out).trans HZ.out.2.2.2
                  go_simp; exact next_same _ rfl rfl hR
                · have hc := HC2.out.below hR
                  have c0 := hc.get 0 _
                  have c1 := hc.get 1 _
                  have c2 := hc.get 2 _
                  have c3 := hc.get 3 _
                  clear hc
                  go_simp; exact next_same _ rfl rfl hR
                · have hnq := fun w => EQL.out w
                  go_simp; exact next_same _ rfl rfl hR
                · go_simp; exact next_same _ rfl rfl hR
                · go_simp; exact next_same _ rfl rfl hR
              · intro x8 wx8 hR8 hx8
                simp [AllWords] at hx8
                have h12 : x8 12 = .bool t := by simp [hx8]
                have HB4 := Lib.hid (below_trans HB3.out HB3.out.size hR8)
                rw [h12]
                clear hx8
                have HRX := Lib.hid (HR1.out.below HB4.out)
                have HCX := Lib.hid (HC1.out.below HB4.out)
                have HBX := Lib.hid (below_trans HB1.out HB1.out.size HB4.out)
                cases t with
                | true =>
                  have HSS := Lib.hid (step_same HK.out HE.out HQ.out HTT.out)
                  have HOX := Lib.hid (HO1.out.keep HB4.out (Nat.le_refl _))
                  go_wp2_with fail
                  go_round
                  case rel => exact ⟨kk + 1, by omega, by go_num, Lib.hid (by rw [HNX.out, HSS.out, HM.out]; exact HOX.out)⟩
                  case measure => simp [intOf]; omega
                | false =>
                  have HST := Lib.hid (step_new HK.out HE.out (fun p hp => by rw [HQ.out] at hp; injection hp with hp; rw [← hp]; exact HTT.out))
                  have HT1 : Hid (Src Tryd.prog 4 49 (.slice (some ⟨b, off, none⟩) k cO) k (flatR (out.take k)) wx8) := Lib.hid (((HRX.out.take k (by omega) cO).sl.srcM (P := Tryd.prog) (c := cO) (tx := 49) (e' := 41) (by kernel_rfl) (HRX.out.take k (by omega) cO).none_ (flatR_one _)))
                  have HT1L : Hid ((flatR (out.take k)).length = k * 4) := Lib.hid ((HRX.out.take k (by omega) cO).sl.1)
                  obtain ⟨A7, hA7⟩ : ∃ A7 : Option Addr, (if cO = k then some ⟨b, off, none⟩ else some ⟨b, off + k * 4, none⟩) = A7 := ⟨_, rfl⟩
                  have HR7 : Hid (∀ wy, Below wx8.heap.size wx8 wy → RowROk wy (A7, M - k, cO - k, out.drop k)) := Lib.hid (fun wy hb => by
                    rw [← hA7]
                    by_cases hck : cO = k
                    · rw [if_pos hck, List.drop_eq_nil_of_le (by have := HM.out; omega), show M - k = 0 by omega]
                      exact RowROk.nothing _ _ _
                    · rw [if_neg hck]
                      exact (HRX.out.below hb).drop k (by omega) _)
                  have hkc : k ≤ cO := by omega
                  have hkci : (k : Int) ≤ cO := by omega
                  have hkni : (k : Int) ≤ M := by omega
                  have hnci : (M : Int) ≤ cO := by omega
                  go_wp2_with (at_builtin; go_loud (refine wpList_append_obm rfl (.const (.slice none 0 0)) _ 49 49 rfl 41 i0 _ 40 (by kernel_rfl) hi hz0 hz1 hz2 rfl (OBM.start (sz := 4) wx8) rfl rfl HT1.out HT1L.out (by unfold maxLen; omega) (by omega) ?_))
                  intro v8 wz q1 q2 q3 q4
                  replace q1 : OBM 4 wx8.heap.size wx8 v8 k (flatR (out.take k)) wz := by simpa using q1
                  have HBZ := Lib.hid q1.bel
                  have HRZ := Lib.hid (HRX.out.below q1.bel)
                  have HCZ := Lib.hid (HCX.out.below q1.bel)
                  obtain ⟨A8, c8, rfl, -, -, -⟩ := q1.slice
                  have HO8 := Lib.hid (q1.out (Nat.le_refl _) (Below.refl _ _))
                  have hsz8 := q1.bel.size
                  clear q1 q2 q3 q4
                  go_upto_region 11 with fail
                  refine wp_region_expR data_follows (fun x => by simp [putsF, Act.put]; rfl) (fun d x v => Below wx8.heap.size wx8 v ∧ wx8.heap.size ≤ v.heap.size ∧ (d 3 = false → OBM 4 wx8.heap.size wx8 (.slice A8 k c8) k (flatR (out.take k)) v) ∧ (d 8 = false → x 8 = .slice (some ⟨b, off, none⟩) M cO))
                    [isX (.slice A8 k c8), isX (.agg #[.string r.1, .int .u16 r.2.1, .int .u32 r.2.2.1, .string r.2.2.2]), until_ 3 (litW 1 (recCells r)), until_ 7 (ownW 4 wx8.heap.size wx8 (k + 1) (flatR (out.take k ++ [r]))), isX (.slice (some ⟨b, off, none⟩) M cO), isX (.int .i64 (k : Nat)), isX (.slice A7 (M - k) (cO - k)), always (ownW 4 wx8.heap.size wx8 (M + 1) (flatR (out.take k ++ r :: out.drop k))), always (ownW 4 wx8.heap.size wx8 (M + 1) (flatR (out.take k ++ r :: out.drop k)))]
                    [3, 4, 7] (by kernel_rfl) (by kernel_rfl) (by kernel_rfl) rfl ?_ ⟨HBZ.out.drew, hsz8, fun _ => HO8.out.drewN 1, fun _ => rfl⟩ ?_ ?_ ?_
                  · repeat (first | exact trivial | refine ⟨by first | exact isX_stays _ | exact until_stays (ownW_stays _ _ _ _ _) | exact until_stays (litW_stays _ _) | exact always_stays (ownW_stays _ _ _ _ _), ?_⟩)
                  · refine ⟨?_, ?_, ?_, skipped rfl, skipped rfl, ?_, ?_, skipped rfl, ?_, trivial⟩
                    all_goals
                      intro _ d x wy hR hdi hsrc hd
                      refine ⟨fun _ => ?_, fun hX => by simp at hX⟩
                      simp [wordX, isX] at hd ⊢
                    · go_simp; exact nextXR _ rfl rfl ⟨hR.1, hR.2.1, fun h => hR.2.2.1 (setD_false h), held_next hR.2.2.2 (by decide)⟩ (Below.refl _ _)
                    · have hc := HCX.out.below hR.1
                      have c0 := hc.get 0 _
                      have c1 := hc.get 1 _
                      have c2 := hc.get 2 _
                      have c3 := hc.get 3 _
                      clear hc
                      go_simp; exact nextXR _ rfl rfl ⟨hR.1, hR.2.1, fun h => hR.2.2.1 (setD_false h), held_next hR.2.2.2 (by decide)⟩ (Below.refl _ _)
                    · go_simp; exact nextXR _ rfl (until_of (litW_new 1 _ _ _ _)) ⟨hR.1.alloc hR.2.1 _, by have := hR.2.1; simp; omega, fun h => (hR.2.2.1 (setD_false h)).alloc _, held_next hR.2.2.2 (by decide)⟩ ((Below.refl _ _).alloc (Nat.le_refl _) _)
                    · go_simp; exact nextXR _ rfl rfl ⟨hR.1, hR.2.1, fun h => hR.2.2.1 (setD_false h), held_next hR.2.2.2 (by decide)⟩ (Below.refl _ _)
                    · obtain ⟨hd0, hd1⟩ := hd; go_simp; exact nextXR _ rfl rfl ⟨hR.1, hR.2.1, fun h => hR.2.2.1 (setD_false h), held_next hR.2.2.2 (by decide)⟩ (Below.refl _ _)
                    · have hd7 : ownW 4 wx8.heap.size wx8 (M + 1) (flatR (out.take k ++ r :: out.drop k)) (x 7) wy := by first | exact hd | exact hd.1
                      go_simp; exact nextXR _ rfl hd7 ⟨hR.1, hR.2.1, fun h => hR.2.2.1 (setD_false h), held_self⟩ (Below.refl _ _)
                  · refine ⟨unskipped rfl, unskipped rfl, unskipped rfl, ?_, ?_, unskipped rfl, unskipped rfl, ?_, unskipped rfl, trivial⟩
                    · intro _ d x wy hR hdi hcl hsrc hd
                      refine ⟨fun _ => ?_, fun hX => by simp at hX⟩
                      have d0 : d 0 = true := SrcX.reach (K := 3) hcl hsrc rfl 20 0 (by decide) (by kernel_rfl)
                      have d2 : d 2 = true := SrcX.reach (K := 3) hcl hsrc rfl 20 2 (by decide) (by kernel_rfl)
                      simp only [DoneX] at hd
                      have h0 : x 0 = .slice A8 k c8 := hd.1 d0
                      obtain ⟨g2, hx2, hc2⟩ := hd.2.2.1 d2 hdi
                      have ho := hR.2.2.1 hdi
                      dsimp only
                      rw [h0, hx2]
                      refine oper_append_obk _ _ _ _ rfl 41 i0 _ 40 (by kernel_rfl) hi hz0 hz1 hz2 rfl ho rfl rfl
                        (Src.ofSlice _ (e' := 41) (by kernel_rfl) ⟨g2, 0, none⟩ 1 1 (recCells r) rfl (fun j u hu => by rw [Addr.add_lit, Nat.zero_add]; exact hc2.get j u hu) (by intro u hu; unfold recCells at hu; simp at hu; rcases hu with rfl | rfl | rfl | rfl <;> rfl)) rfl (by unfold maxLen; omega) (by omega) ?_
                      intro v' w' q1 q2 q3 q4 q5
                      rw [← flatR_snoc] at q1
                      refine nextKR v' rfl (until_of q1) ⟨q1.bel, q1.base, fun h => absurd h (by simp [setD]), held_next hR.2.2.2 (by decide)⟩ ?_
                      refine ⟨fun _ _ h => h, fun _ _ h => h, fun _ _ _ => until_self, fun h => absurd rfl h, fun _ _ h => h, fun _ _ h => h, fun _ _ h => h, fun _ h7 _ => ?_, fun _ h8 _ => ?_, trivial⟩
                      · have := hcl.reach 20 3 7 (by kernel_rfl) h7
                        rw [hdi] at this; cases this
                      · have := hcl.reach 20 3 8 (by kernel_rfl) h8
                        rw [hdi] at this; cases this
                    · intro _ d x wy hR hdi hcl hsrc hd
                      refine ⟨fun _ => ?_, fun hX => by simp at hX⟩
                      have d8 : d 8 = false := by
                        cases e : d 8 with
                        | false => rfl
                        | true => have := hcl.reach 20 4 8 (by kernel_rfl) e; rw [hdi] at this; cases this
                      have hx8 := hR.2.2.2 d8
                      dsimp only
                      rw [hx8]
                      go_simp
                      refine nextKR _ rfl rfl ⟨hR.1, hR.2.1, fun h => hR.2.2.1 (setD_false h), held_next hR.2.2.2 (by decide)⟩ ?_
                      exact ⟨fun _ _ h => h, fun _ _ h => h, fun _ _ h => until_mono h, fun _ _ h => until_mono h, fun h => absurd rfl h, fun _ _ h => h, fun _ _ h => h, fun _ _ h => h, fun _ _ h => h, trivial⟩
                    · intro _ d x wy hR hdi hcl hsrc hd
                      refine ⟨fun _ => ?_, fun hX => by simp at hX⟩
                      have d3 : d 3 = true := SrcX.reach (K := 7) hcl hsrc rfl 20 3 (by decide) (by kernel_rfl)
                      have d6 : d 6 = true := SrcX.reach (K := 7) hcl hsrc rfl 20 6 (by decide) (by kernel_rfl)
                      simp only [DoneX] at hd
                      have h6 : x 6 = .slice A7 (M - k) (cO - k) := hd.2.2.2.2.2.2.1 d6
                      have ho : OBM 4 wx8.heap.size wx8 (x 3) (k + 1) (flatR (out.take k ++ [r])) wy := hd.2.2.2.1 d3 hdi
                      have h3r := HR7.out wy hR.1
                      dsimp only
                      rw [h6]
                      refine oper_append_obk _ _ _ _ rfl 41 i0 _ 40 (by kernel_rfl) hi hz0 hz1 hz2 rfl ho rfl rfl
                        (h3r.sl.srcM (P := Tryd.prog) (e' := 41) (by kernel_rfl) h3r.none_ (flatR_one _)) h3r.sl.1 (by unfold maxLen; first | omega | (dsimp only; omega)) (by first | omega | (dsimp only; omega)) ?_
                      intro v' w' q1 q2 q3 q4 q5
                      have q1' : OBM 4 wx8.heap.size wx8 v' (M + 1) (flatR (out.take k ++ r :: out.drop k)) w' := by
                        have e1 : flatR (out.take k ++ [r]) ++ flatR (out.drop k) = flatR (out.take k ++ r :: out.drop k) := by rw [← flatR_append]; simp
                        have e2 : k + 1 + (M - k) = M + 1 := by omega
                        rw [← e1, ← e2]; exact q1
                      refine nextKR v' rfl q1' ⟨q1.bel, q1.base, fun h => absurd (setD_false h) (by rw [d3]; simp), held_next hR.2.2.2 (by decide)⟩ ?_
                      refine ⟨fun _ _ h => h, fun _ _ h => h, fun _ _ _ => until_done d3, fun _ _ _ => until_self, fun _ _ h => h, fun _ _ h => h, fun _ _ h => h, fun h => absurd rfl h, fun _ h8 _ => ?_, trivial⟩
                      have := hcl.reach 20 7 8 (by kernel_rfl) h8
                      rw [hdi] at this; cases this
                  · intro x wy d hall hR hx
                    obtain ⟨-, -, -, -, -, -, -, -, ho, -⟩ := hx
                    have ho : OBM 4 wx8.heap.size wx8 (x 8) (M + 1) (flatR (out.take k ++ r :: out.drop k)) wy := ho
                    obtain ⟨AF, cF, hF, -, -, -⟩ := ho.slice
                    have HF := Lib.hid (ho.out HBX.out.size HBX.out)
                    rw [hF] at HF ⊢
                    clear ho hF hR
                    go_wp2_with fail
                    go_round
                    case rel => exact ⟨kk + 1, by omega, by go_num, Lib.hid (by rw [HNX.out, HST.out, insR_split_len (k := k) (by have := HM.out; omega), HM.out]; exact HF.out)⟩
                    case measure => simp [intOf]; omega
        · obtain rfl : k = M := by omega
          have hlt' : ¬ (k : Int) < k := by omega
          have HNO : Hid (∀ q, out[k]? = some q → False) := Lib.hid (by
            intro p hp
            have := (List.getElem?_eq_some_iff.1 hp).1
            have := HM.out
            omega)
          have HST := Lib.hid (step_new HK.out (fun p hp => (HNO.out p hp).elim) (fun p hp => (HNO.out p hp).elim))
          rcases HAO.out with ⟨rfl, hM0, hc0⟩ | ⟨gO, rfl⟩
          · have HM0 := Lib.hid (And.intro hM0 hc0)
            clear hM0 hc0
            go_upto_region 6 with fail
            refine wp_region_goesG data_follows (fun x => by simp [putsF, Act.put]; rfl) wr.heap.size wr
              [isV (.int .i64 (k : Nat)), isV (.slice none k cO), isV (.int .i64 (k : Nat)), isV (.bool false), isV (.bool false), isV undef, isV undef, isV undef, isV undef, isV undef, isV undef, isV undef, isV (.bool false)]
              (by kernel_rfl) (by kernel_rfl) (by kernel_rfl) rfl ?_ (Below.refl _ _) ?_ ?_
            · repeat (first | exact trivial | refine ⟨isV_stays _, ?_⟩)
            · refine ⟨?_, ?_, ?_, ?_, ?_, ?_, ?_, ?_, ?_, ?_, ?_, ?_, ?_, trivial⟩
              all_goals
                intro x wx hR hd
                simp at hd ⊢
              all_goals try simp [hd]
              · go_simp; exact next_same _ rfl rfl hR
              · go_simp; exact next_same _ rfl rfl hR
              · go_simp; exact next_same _ rfl rfl hR
              · go_simp; exact next_same _ rfl rfl hR
              · go_simp; exact next_same _ rfl rfl hR
              · go_simp; exact next_same _ rfl rfl hR
            · intro x wx hR hx
              simp [AllWords] at hx
              have h12 : x 12 = .bool false := by simp [hx]
              have HB3 := Lib.hid (below_trans HB2.out HB2.out.size hR)
              rw [h12]
              clear hx
              go_upto_region 8 with fail
              refine wp_region_goesG data_follows (fun x => by simp [putsF, Act.put]; rfl) wx.heap.size wx
                [isV (.int .i64 (k : Nat)), isV (.slice none k cO), isV (.int .i64 (k : Nat)), isV (.bool false), isV (.bool false), isV undef, isV undef, isV undef, isV undef, isV undef, isV undef, isV (.bool false), isV (.bool false)]
                (by kernel_rfl) (by kernel_rfl) (by kernel_rfl) rfl ?_ (Below.refl _ _) ?_ ?_
              · repeat (first | exact trivial | refine ⟨isV_stays _, ?_⟩)
              · refine ⟨?_, ?_, ?_, ?_, ?_, ?_, ?_, ?_, ?_, ?_, ?_, ?_, ?_, trivial⟩
                all_goals
                  intro x wv hR hd
                  simp at hd ⊢
                all_goals try simp [hd]
                · go_simp; exact next_same _ rfl rfl hR
                · go_simp; exact next_same _ rfl rfl hR
                · go_simp; exact next_same _ rfl rfl hR
                · go_simp; exact next_same _ rfl rfl hR
                · go_simp; exact next_same _ rfl rfl hR
                · go_simp; exact next_same _ rfl rfl hR
                · go_simp; exact next_same _ rfl rfl hR
              · intro x8 wx8 hR8 hx8
                simp [AllWords] at hx8
                have h12 : x8 12 = .bool false := by simp [hx8]
                have HB4 := Lib.hid (below_trans HB3.out HB3.out.size hR8)
                rw [h12]
                clear hx8
                have HRX := Lib.hid (HR1.out.below HB4.out)
                have HCX := Lib.hid (HC1.out.below HB4.out)
                have HBX := Lib.hid (below_trans HB1.out HB1.out.size HB4.out)
                have HT1 : Hid (Src Tryd.prog 4 49 (.slice none k cO) k (flatR (out.take k)) wx8) := Lib.hid (((HRX.out.take k (by omega) cO).sl.srcM (P := Tryd.prog) (c := cO) (tx := 49) (e' := 41) (by kernel_rfl) (HRX.out.take k (by omega) cO).none_ (flatR_one _)))
                have HT1L : Hid ((flatR (out.take k)).length = k * 4) := Lib.hid ((HRX.out.take k (by omega) cO).sl.1)
                have HR7 : Hid (∀ wy, Below wx8.heap.size wx8 wy → RowROk wy (none, 0, cO - k, out.drop k)) := Lib.hid (fun wy hb => by
                  rw [List.drop_eq_nil_of_le (by have := HM.out; omega)]
                  exact RowROk.nothing _ _ _)
                have hkc : k ≤ cO := by omega
                have hkci : (k : Int) ≤ cO := by omega
                go_wp2_with (at_builtin; go_loud (refine wpList_append_obm rfl (.const (.slice none 0 0)) _ 49 49 rfl 41 i0 _ 40 (by kernel_rfl) hi hz0 hz1 hz2 rfl (OBM.start (sz := 4) wx8) rfl rfl HT1.out HT1L.out (by unfold maxLen; omega) (by omega) ?_))
                intro v8 wz q1 q2 q3 q4
                replace q1 : OBM 4 wx8.heap.size wx8 v8 k (flatR (out.take k)) wz := by simpa using q1
                have HBZ := Lib.hid q1.bel
                have HRZ := Lib.hid (HRX.out.below q1.bel)
                have HCZ := Lib.hid (HCX.out.below q1.bel)
                obtain ⟨A8, c8, rfl, -, -, -⟩ := q1.slice
                have HO8 := Lib.hid (q1.out (Nat.le_refl _) (Below.refl _ _))
                have hsz8 := q1.bel.size
                clear q1 q2 q3 q4
                go_upto_region 11 with fail
                refine wp_region_expR data_follows (fun x => by simp [putsF, Act.put]; rfl) (fun d x v => Below wx8.heap.size wx8 v ∧ wx8.heap.size ≤ v.heap.size ∧ (d 3 = false → OBM 4 wx8.heap.size wx8 (.slice A8 k c8) k (flatR (out.take k)) v) ∧ (d 8 = false → x 8 = .slice none k cO))
                  [isX (.slice A8 k c8), isX (.agg #[.string r.1, .int .u16 r.2.1, .int .u32 r.2.2.1, .string r.2.2.2]), until_ 3 (litW 1 (recCells r)), until_ 7 (ownW 4 wx8.heap.size wx8 (k + 1) (flatR (out.take k ++ [r]))), isX (.slice none k cO), isX (.int .i64 (k : Nat)), isX (.slice none 0 (cO - k)), always (ownW 4 wx8.heap.size wx8 (k + 1) (flatR (out.take k ++ r :: out.drop k))), always (ownW 4 wx8.heap.size wx8 (k + 1) (flatR (out.take k ++ r :: out.drop k)))]
                  [3, 4, 7] (by kernel_rfl) (by kernel_rfl) (by kernel_rfl) rfl ?_ ⟨HBZ.out.drew, hsz8, fun _ => HO8.out.drewN 1, fun _ => rfl⟩ ?_ ?_ ?_
                · repeat (first | exact trivial | refine ⟨by first | exact isX_stays _ | exact until_stays (ownW_stays _ _ _ _ _) | exact until_stays (litW_stays _ _) | exact always_stays (ownW_stays _ _ _ _ _), ?_⟩)
                · refine ⟨?_, ?_, ?_, skipped rfl, skipped rfl, ?_, ?_, skipped rfl, ?_, trivial⟩
                  all_goals
                    intro _ d x wy hR hdi hsrc hd
                    refine ⟨fun _ => ?_, fun hX => by simp at hX⟩
                    simp [wordX, isX] at hd ⊢
                  · go_simp; exact nextXR _ rfl rfl ⟨hR.1, hR.2.1, fun h => hR.2.2.1 (setD_false h), held_next hR.2.2.2 (by decide)⟩ (Below.refl _ _)
                  · have hc := HCX.out.below hR.1
                    have c0 := hc.get 0 _
                    have c1 := hc.get 1 _
                    have c2 := hc.get 2 _
                    have c3 := hc.get 3 _
                    clear hc
                    go_simp; exact nextXR _ rfl rfl ⟨hR.1, hR.2.1, fun h => hR.2.2.1 (setD_false h), held_next hR.2.2.2 (by decide)⟩ (Below.refl _ _)
                  · go_simp; exact nextXR _ rfl (until_of (litW_new 1 _ _ _ _)) ⟨hR.1.alloc hR.2.1 _, by have := hR.2.1; simp; omega, fun h => (hR.2.2.1 (setD_false h)).alloc _, held_next hR.2.2.2 (by decide)⟩ ((Below.refl _ _).alloc (Nat.le_refl _) _)
                  · go_simp; exact nextXR _ rfl rfl ⟨hR.1, hR.2.1, fun h => hR.2.2.1 (setD_false h), held_next hR.2.2.2 (by decide)⟩ (Below.refl _ _)
                  · obtain ⟨hd0, hd1⟩ := hd; go_simp; exact nextXR _ rfl rfl ⟨hR.1, hR.2.1, fun h => hR.2.2.1 (setD_false h), held_next hR.2.2.2 (by decide)⟩ (Below.refl _ _)
                  · have hd7 : ownW 4 wx8.heap.size wx8 (k + 1) (flatR (out.take k ++ r :: out.drop k)) (x 7) wy := by first | exact hd | exact hd.1
                    go_simp; exact nextXR _ rfl hd7 ⟨hR.1, hR.2.1, fun h => hR.2.2.1 (setD_false h), held_self⟩ (Below.refl _ _)
                · refine ⟨unskipped rfl, unskipped rfl, unskipped rfl, ?_, ?_, unskipped rfl, unskipped rfl, ?_, unskipped rfl, trivial⟩
                  · intro _ d x wy hR hdi hcl hsrc hd
                    refine ⟨fun _ => ?_, fun hX => by simp at hX⟩
                    have d0 : d 0 = true := SrcX.reach (K := 3) hcl hsrc rfl 20 0 (by decide) (by kernel_rfl)
                    have d2 : d 2 = true := SrcX.reach (K := 3) hcl hsrc rfl 20 2 (by decide) (by kernel_rfl)
                    simp only [DoneX] at hd
                    have h0 : x 0 = .slice A8 k c8 := hd.1 d0
                    obtain ⟨g2, hx2, hc2⟩ := hd.2.2.1 d2 hdi
                    have ho := hR.2.2.1 hdi
                    dsimp only
                    rw [h0, hx2]
                    refine oper_append_obk _ _ _ _ rfl 41 i0 _ 40 (by kernel_rfl) hi hz0 hz1 hz2 rfl ho rfl rfl
                      (Src.ofSlice _ (e' := 41) (by kernel_rfl) ⟨g2, 0, none⟩ 1 1 (recCells r) rfl (fun j u hu => by rw [Addr.add_lit, Nat.zero_add]; exact hc2.get j u hu) (by intro u hu; unfold recCells at hu; simp at hu; rcases hu with rfl | rfl | rfl | rfl <;> rfl)) rfl (by unfold maxLen; omega) (by omega) ?_
                    intro v' w' q1 q2 q3 q4 q5
                    rw [← flatR_snoc] at q1
                    refine nextKR v' rfl (until_of q1) ⟨q1.bel, q1.base, fun h => absurd h (by simp [setD]), held_next hR.2.2.2 (by decide)⟩ ?_
                    refine ⟨fun _ _ h => h, fun _ _ h => h, fun _ _ _ => until_self, fun h => absurd rfl h, fun _ _ h => h, fun _ _ h => h, fun _ _ h => h, fun _ h7 _ => ?_, fun _ h8 _ => ?_, trivial⟩
                    · have := hcl.reach 20 3 7 (by kernel_rfl) h7
                      rw [hdi] at this; cases this
                    · have := hcl.reach 20 3 8 (by kernel_rfl) h8
                      rw [hdi] at this; cases this
                  · intro _ d x wy hR hdi hcl hsrc hd
                    refine ⟨fun _ => ?_, fun hX => by simp at hX⟩
                    have d8 : d 8 = false := by
                      cases e : d 8 with
                      | false => rfl
                      | true => have := hcl.reach 20 4 8 (by kernel_rfl) e; rw [hdi] at this; cases this
                    have hx8 := hR.2.2.2 d8
                    dsimp only
                    rw [hx8]
                    go_simp
                    refine nextKR _ rfl rfl ⟨hR.1, hR.2.1, fun h => hR.2.2.1 (setD_false h), held_next hR.2.2.2 (by decide)⟩ ?_
                    exact ⟨fun _ _ h => h, fun _ _ h => h, fun _ _ h => until_mono h, fun _ _ h => until_mono h, fun h => absurd rfl h, fun _ _ h => h, fun _ _ h => h, fun _ _ h => h, fun _ _ h => h, trivial⟩
                  · intro _ d x wy hR hdi hcl hsrc hd
                    refine ⟨fun _ => ?_, fun hX => by simp at hX⟩
                    have d3 : d 3 = true := SrcX.reach (K := 7) hcl hsrc rfl 20 3 (by decide) (by kernel_rfl)
                    have d6 : d 6 = true := SrcX.reach (K := 7) hcl hsrc rfl 20 6 (by decide) (by kernel_rfl)
                    simp only [DoneX] at hd
                    have h6 : x 6 = .slice none 0 (cO - k) := hd.2.2.2.2.2.2.1 d6
                    have ho : OBM 4 wx8.heap.size wx8 (x 3) (k + 1) (flatR (out.take k ++ [r])) wy := hd.2.2.2.1 d3 hdi
                    have h3r := HR7.out wy hR.1
                    dsimp only
                    rw [h6]
                    refine oper_append_obk _ _ _ _ rfl 41 i0 _ 40 (by kernel_rfl) hi hz0 hz1 hz2 rfl ho rfl rfl
                      (h3r.sl.srcM (P := Tryd.prog) (e' := 41) (by kernel_rfl) h3r.none_ (flatR_one _)) h3r.sl.1 (by unfold maxLen; first | omega | (dsimp only; omega)) (by first | omega | (dsimp only; omega)) ?_
                    intro v' w' q1 q2 q3 q4 q5
                    have q1' : OBM 4 wx8.heap.size wx8 v' (k + 1) (flatR (out.take k ++ r :: out.drop k)) w' := by
                      have e1 : flatR (out.take k ++ [r]) ++ flatR (out.drop k) = flatR (out.take k ++ r :: out.drop k) := by rw [← flatR_append]; simp
                      have e2 : k + 1 + 0 = k + 1 := by omega
                      rw [← e1, ← e2]; exact q1
                    refine nextKR v' rfl q1' ⟨q1.bel, q1.base, fun h => absurd (setD_false h) (by rw [d3]; simp), held_next hR.2.2.2 (by decide)⟩ ?_
                    refine ⟨fun _ _ h => h, fun _ _ h => h, fun _ _ _ => until_done d3, fun _ _ _ => until_self, fun _ _ h => h, fun _ _ h => h, fun _ _ h => h, fun h => absurd rfl h, fun _ h8 _ => ?_, trivial⟩
                    have := hcl.reach 20 7 8 (by kernel_rfl) h8
                    rw [hdi] at this; cases this
                · intro x wy d hall hR hx
                  obtain ⟨-, -, -, -, -, -, -, -, ho, -⟩ := hx
                  have ho : OBM 4 wx8.heap.size wx8 (x 8) (k + 1) (flatR (out.take k ++ r :: out.drop k)) wy := ho
                  obtain ⟨AF, cF, hF, -, -, -⟩ := ho.slice
                  have HF := Lib.hid (ho.out HBX.out.size HBX.out)
                  rw [hF] at HF ⊢
                  clear ho hF hR
                  go_wp2_with fail
                  go_round
                  case rel => exact ⟨kk + 1, by omega, by go_num, Lib.hid (by rw [HNX.out, HST.out, insR_split_len (k := k) (by have := HM.out; omega), HM.out]; exact HF.out)⟩
                  case measure => simp [intOf]; omega
          · have hgO : gO = gO := rfl
            go_upto_region 6 with fail
            refine wp_region_goesG data_follows (fun x => by simp [putsF, Act.put]; rfl) wr.heap.size wr
              [isV (.int .i64 (k : Nat)), isV (.slice (some ⟨gO, 0, none⟩) k cO), isV (.int .i64 (k : Nat)), isV (.bool false), isV (.bool false), isV undef, isV undef, isV undef, isV undef, isV undef, isV undef, isV undef, isV (.bool false)]
              (by kernel_rfl) (by kernel_rfl) (by kernel_rfl) rfl ?_ (Below.refl _ _) ?_ ?_
            · repeat (first | exact trivial | refine ⟨isV_stays _, ?_⟩)
            · refine ⟨?_, ?_, ?_, ?_, ?_, ?_, ?_, ?_, ?_, ?_, ?_, ?_, ?_, trivial⟩
              all_goals
                intro x wx hR hd
                simp at hd ⊢
              all_goals try simp [hd]
              · go_simp; exact next_same _ rfl rfl hR
              · go_simp; exact next_same _ rfl rfl hR
              · go_simp; exact next_same _ rfl rfl hR
              · go_simp; exact next_same _ rfl rfl hR
              · go_simp; exact next_same _ rfl rfl hR
              · go_simp; exact next_same _ rfl rfl hR
            · intro x wx hR hx
              simp [AllWords] at hx
              have h12 : x 12 = .bool false := by simp [hx]
              have HB3 := Lib.hid (below_trans HB2.out HB2.out.size hR)
              rw [h12]
              clear hx
              go_upto_region 8 with fail
              refine wp_region_goesG data_follows (fun x => by simp [putsF, Act.put]; rfl) wx.heap.size wx
                [isV (.int .i64 (k : Nat)), isV (.slice (some ⟨gO, 0, none⟩) k cO), isV (.int .i64 (k : Nat)), isV (.bool false), isV (.bool false), isV undef, isV undef, isV undef, isV undef, isV undef, isV undef, isV (.bool false), isV (.bool false)]
                (by kernel_rfl) (by kernel_rfl) (by kernel_rfl) rfl ?_ (Below.refl _ _) ?_ ?_
              · repeat (first | exact trivial | refine ⟨isV_stays _, ?_⟩)
              · refine ⟨?_, ?_, ?_, ?_, ?_, ?_, ?_, ?_, ?_, ?_, ?_, ?_, ?_, trivial⟩
                all_goals
                  intro x wv hR hd
                  simp at hd ⊢
                all_goals try simp [hd]
                · go_simp; exact next_same _ rfl rfl hR
                · go_simp; exact next_same _ rfl rfl hR
                · go_simp; exact next_same _ rfl rfl hR
                · go_simp; exact next_same _ rfl rfl hR
                · go_simp; exact next_same _ rfl rfl hR
                · go_simp; exact next_same _ rfl rfl hR
                · go_simp; exact next_same _ rfl rfl hR
              · intro x8 wx8 hR8 hx8
                simp [AllWords] at hx8
                have h12 : x8 12 = .bool false := by simp [hx8]
                have HB4 := Lib.hid (below_trans HB3.out HB3.out.size hR8)
                rw [h12]
                clear hx8
                have HRX := Lib.hid (HR1.out.below HB4.out)
                have HCX := Lib.hid (HC1.out.below HB4.out)
                have HBX := Lib.hid (below_trans HB1.out HB1.out.size HB4.out)
                have HT1 : Hid (Src Tryd.prog 4 49 (.slice (some ⟨gO, 0, none⟩) k cO) k (flatR (out.take k)) wx8) := Lib.hid (((HRX.out.take k (by omega) cO).sl.srcM (P := Tryd.prog) (c := cO) (tx := 49) (e' := 41) (by kernel_rfl) (HRX.out.take k (by omega) cO).none_ (flatR_one _)))
                have HT1L : Hid ((flatR (out.take k)).length = k * 4) := Lib.hid ((HRX.out.take k (by omega) cO).sl.1)
                obtain ⟨A7, hA7⟩ : ∃ A7 : Option Addr, (if cO = k then some ⟨gO, 0, none⟩ else some ⟨gO, k * 4, none⟩) = A7 := ⟨_, rfl⟩
                have HR7 : Hid (∀ wy, Below wx8.heap.size wx8 wy → RowROk wy (A7, 0, cO - k, out.drop k)) := Lib.hid (fun wy hb => by
                  rw [← hA7]
                  by_cases hck : cO = k
                  · rw [if_pos hck, List.drop_eq_nil_of_le (by have := HM.out; omega)]
                    exact RowROk.nothing _ _ _
                  · rw [if_neg hck]
                    have := (HRX.out.below hb).drop k (by omega) (cO - k)
                    rwa [Nat.sub_self, Nat.zero_add] at this)
                have hkc : k ≤ cO := by omega
                have hkci : (k : Int) ≤ cO := by omega
                have hkni : (k : Int) ≤ k := by omega
                have hnci : (k : Int) ≤ cO := by omega
                go_wp2_with (at_builtin; go_loud (refine wpList_append_obm rfl (.const (.slice none 0 0)) _ 49 49 rfl 41 i0 _ 40 (by kernel_rfl) hi hz0 hz1 hz2 rfl (OBM.start (sz := 4) wx8) rfl rfl HT1.out HT1L.out (by unfold maxLen; omega) (by omega) ?_))
                intro v8 wz q1 q2 q3 q4
                replace q1 : OBM 4 wx8.heap.size wx8 v8 k (flatR (out.take k)) wz := by simpa using q1
                have HBZ := Lib.hid q1.bel
                have HRZ := Lib.hid (HRX.out.below q1.bel)
                have HCZ := Lib.hid (HCX.out.below q1.bel)
                obtain ⟨A8, c8, rfl, -, -, -⟩ := q1.slice
                have HO8 := Lib.hid (q1.out (Nat.le_refl _) (Below.refl _ _))
                have hsz8 := q1.bel.size
                clear q1 q2 q3 q4
                go_upto_region 11 with fail
                refine wp_region_expR data_follows (fun x => by simp [putsF, Act.put]; rfl) (fun d x v => Below wx8.heap.size wx8 v ∧ wx8.heap.size ≤ v.heap.size ∧ (d 3 = false → OBM 4 wx8.heap.size wx8 (.slice A8 k c8) k (flatR (out.take k)) v) ∧ (d 8 = false → x 8 = .slice (some ⟨gO, 0, none⟩) k cO))
                  [isX (.slice A8 k c8), isX (.agg #[.string r.1, .int .u16 r.2.1, .int .u32 r.2.2.1, .string r.2.2.2]), until_ 3 (litW 1 (recCells r)), until_ 7 (ownW 4 wx8.heap.size wx8 (k + 1) (flatR (out.take k ++ [r]))), isX (.slice (some ⟨gO, 0, none⟩) k cO), isX (.int .i64 (k : Nat)), isX (.slice A7 0 (cO - k)), always (ownW 4 wx8.heap.size wx8 (k + 1) (flatR (out.take k ++ r :: out.drop k))), always (ownW 4 wx8.heap.size wx8 (k + 1) (flatR (out.take k ++ r :: out.drop k)))]
                  [3, 4, 7] (by kernel_rfl) (by kernel_rfl) (by kernel_rfl) rfl ?_ ⟨HBZ.out.drew, hsz8, fun _ => HO8.out.drewN 1, fun _ => rfl⟩ ?_ ?_ ?_
                · repeat (first | exact trivial | refine ⟨by first | exact isX_stays _ | exact until_stays (ownW_stays _ _ _ _ _) | exact until_stays (litW_stays _ _) | exact always_stays (ownW_stays _ _ _ _ _), ?_⟩)
                · refine ⟨?_, ?_, ?_, skipped rfl, skipped rfl, ?_, ?_, skipped rfl, ?_, trivial⟩
                  all_goals
                    intro _ d x wy hR hdi hsrc hd
                    refine ⟨fun _ => ?_, fun hX => by simp at hX⟩
                    simp [wordX, isX] at hd ⊢
                  · go_simp; exact nextXR _ rfl rfl ⟨hR.1, hR.2.1, fun h => hR.2.2.1 (setD_false h), held_next hR.2.2.2 (by decide)⟩ (Below.refl _ _)
                  · have hc := HCX.out.below hR.1
                    have c0 := hc.get 0 _
                    have c1 := hc.get 1 _
                    have c2 := hc.get 2 _
                    have c3 := hc.get 3 _
                    clear hc
                    go_simp; exact nextXR _ rfl rfl ⟨hR.1, hR.2.1, fun h => hR.2.2.1 (setD_false h), held_next hR.2.2.2 (by decide)⟩ (Below.refl _ _)
                  · go_simp; exact nextXR _ rfl (until_of (litW_new 1 _ _ _ _)) ⟨hR.1.alloc hR.2.1 _, by have := hR.2.1; simp; omega, fun h => (hR.2.2.1 (setD_false h)).alloc _, held_next hR.2.2.2 (by decide)⟩ ((Below.refl _ _).alloc (Nat.le_refl _) _)
                  · go_simp; exact nextXR _ rfl rfl ⟨hR.1, hR.2.1, fun h => hR.2.2.1 (setD_false h), held_next hR.2.2.2 (by decide)⟩ (Below.refl _ _)
                  · obtain ⟨hd0, hd1⟩ := hd; go_simp; exact nextXR _ rfl rfl ⟨hR.1, hR.2.1, fun h => hR.2.2.1 (setD_false h), held_next hR.2.2.2 (by decide)⟩ (Below.refl _ _)
                  · have hd7 : ownW 4 wx8.heap.size wx8 (k + 1) (flatR (out.take k ++ r :: out.drop k)) (x 7) wy := by first | exact hd | exact hd.1
                    go_simp; exact nextXR _ rfl hd7 ⟨hR.1, hR.2.1, fun h => hR.2.2.1 (setD_false h), held_self⟩ (Below.refl _ _)
                · refine ⟨unskipped rfl, unskipped rfl, unskipped rfl, ?_, ?_, unskipped rfl, unskipped rfl, ?_, unskipped rfl, trivial⟩
                  · intro _ d x wy hR hdi hcl hsrc hd
                    refine ⟨fun _ => ?_, fun hX => by simp at hX⟩
                    have d0 : d 0 = true := SrcX.reach (K := 3) hcl hsrc rfl 20 0 (by decide) (by kernel_rfl)
                    have d2 : d 2 = true := SrcX.reach (K := 3) hcl hsrc rfl 20 2 (by decide) (by kernel_rfl)
                    simp only [DoneX] at hd
                    have h0 : x 0 = .slice A8 k c8 := hd.1 d0
                    obtain ⟨g2, hx2, hc2⟩ := hd.2.2.1 d2 hdi
                    have ho := hR.2.2.1 hdi
                    dsimp only
                    rw [h0, hx2]
                    refine oper_append_obk _ _ _ _ rfl 41 i0 _ 40 (by kernel_rfl) hi hz0 hz1 hz2 rfl ho rfl rfl
                      (Src.ofSlice _ (e' := 41) (by kernel_rfl) ⟨g2, 0, none⟩ 1 1 (recCells r) rfl (fun j u hu => by rw [Addr.add_lit, Nat.zero_add]; exact hc2.get j u hu) (by intro u hu; unfold recCells at hu; simp at hu; rcases hu with rfl | rfl | rfl | rfl <;> rfl)) rfl (by unfold maxLen; omega) (by omega) ?_
                    intro v' w' q1 q2 q3 q4 q5
                    rw [← flatR_snoc] at q1
                    refine nextKR v' rfl (until_of q1) ⟨q1.bel, q1.base, fun h => absurd h (by simp [setD]), held_next hR.2.2.2 (by decide)⟩ ?_
                    refine ⟨fun _ _ h => h, fun _ _ h => h, fun _ _ _ => until_self, fun h => absurd rfl h, fun _ _ h => h, fun _ _ h => h, fun _ _ h => h, fun _ h7 _ => ?_, fun _ h8 _ => ?_, trivial⟩
                    · have := hcl.reach 20 3 7 (by kernel_rfl) h7
                      rw [hdi] at this; cases this
                    · have := hcl.reach 20 3 8 (by kernel_rfl) h8
                      rw [hdi] at this; cases this
                  · intro _ d x wy hR hdi hcl hsrc hd
                    refine ⟨fun _ => ?_, fun hX => by simp at hX⟩
                    have d8 : d 8 = false := by
                      cases e : d 8 with
                      | false => rfl
                      | true => have := hcl.reach 20 4 8 (by kernel_rfl) e; rw [hdi] at this; cases this
                    have hx8 := hR.2.2.2 d8
                    dsimp only
                    rw [hx8]
                    go_simp
                    refine nextKR _ rfl rfl ⟨hR.1, hR.2.1, fun h => hR.2.2.1 (setD_false h), held_next hR.2.2.2 (by decide)⟩ ?_
                    exact ⟨fun _ _ h => h, fun _ _ h => h, fun _ _ h => until_mono h, fun _ _ h => until_mono h, fun h => absurd rfl h, fun _ _ h => h, fun _ _ h => h, fun _ _ h => h, fun _ _ h => h, trivial⟩
                  · intro _ d x wy hR hdi hcl hsrc hd
                    refine ⟨fun _ => ?_, fun hX => by simp at hX⟩
                    have d3 : d 3 = true := SrcX.reach (K := 7) hcl hsrc rfl 20 3 (by decide) (by kernel_rfl)
                    have d6 : d 6 = true := SrcX.reach (K := 7) hcl hsrc rfl 20 6 (by decide) (by kernel_rfl)
                    simp only [DoneX] at hd
                    have h6 : x 6 = .slice A7 0 (cO - k) := hd.2.2.2.2.2.2.1 d6
                    have ho : OBM 4 wx8.heap.size wx8 (x 3) (k + 1) (flatR (out.take k ++ [r])) wy := hd.2.2.2.1 d3 hdi
                    have h3r := HR7.out wy hR.1
                    dsimp only
                    rw [h6]
                    refine oper_append_obk _ _ _ _ rfl 41 i0 _ 40 (by kernel_rfl) hi hz0 hz1 hz2 rfl ho rfl rfl
                      (h3r.sl.srcM (P := Tryd.prog) (e' := 41) (by kernel_rfl) h3r.none_ (flatR_one _)) h3r.sl.1 (by unfold maxLen; first | omega | (dsimp only; omega)) (by first | omega | (dsimp only; omega)) ?_
                    intro v' w' q1 q2 q3 q4 q5
                    have q1' : OBM 4 wx8.heap.size wx8 v' (k + 1) (flatR (out.take k ++ r :: out.drop k)) w' := by
                      have e1 : flatR (out.take k ++ [r]) ++ flatR (out.drop k) = flatR (out.take k ++ r :: out.drop k) := by rw [← flatR_append]; simp
                      have e2 : k + 1 + 0 = k + 1 := by omega
                      rw [← e1, ← e2]; exact q1
                    refine nextKR v' rfl q1' ⟨q1.bel, q1.base, fun h => absurd (setD_false h) (by rw [d3]; simp), held_next hR.2.2.2 (by decide)⟩ ?_
                    refine ⟨fun _ _ h => h, fun _ _ h => h, fun _ _ _ => until_done d3, fun _ _ _ => until_self, fun _ _ h => h, fun _ _ h => h, fun _ _ h => h, fun h => absurd rfl h, fun _ h8 _ => ?_, trivial⟩
                    have := hcl.reach 20 7 8 (by kernel_rfl) h8
                    rw [hdi] at this; cases this
                · intro x wy d hall hR hx
                  obtain ⟨-, -, -, -, -, -, -, -, ho, -⟩ := hx
                  have ho : OBM 4 wx8.heap.size wx8 (x 8) (k + 1) (flatR (out.take k ++ r :: out.drop k)) wy := ho
                  obtain ⟨AF, cF, hF, -, -, -⟩ := ho.slice
                  have HF := Lib.hid (ho.out HBX.out.size HBX.out)
                  rw [hF] at HF ⊢
                  clear ho hF hR
                  go_wp2_with fail
                  go_round
                  case rel => exact ⟨kk + 1, by omega, by go_num, Lib.hid (by rw [HNX.out, HST.out, insR_split_len (k := k) (by have := HM.out; omega), HM.out]; exact HF.out)⟩
                  case measure => simp [intOf]; omega
    · have hlt' : ¬ (kk : Int) < n := by omega
      go_wp2_with fail
      go_ret
      have := HB.out
      rw [List.take_of_length_le (by rw [HL.out]; omega)] at this
      exact ⟨_, rfl, this⟩
end Go.Proofs.YtpbbnpglcadimaaDoor
