/- The walk of JournalCrash. -/
import Derived.Test.YtidpffgdndjgpaaJrnH
import Derived.Outline
namespace Go.Proofs.Ytidpffgdndjgpaa
open Go.RowKit
set_option linter.unusedVariables false
set_option linter.unusedSimpArgs false
set_option maxRecDepth 20000
theorem crash_strs : (Try.prog.info? 9).map (fun i => (i.zero, i.size, i.bytes)) = some (some (.string ⟨#[]⟩), 1, 16) := by kernel_rfl
theorem DevE.wideC {F F' : Nat → Prop} {B : Nat} {W : World} {d : Nat} {segs : List (List UInt8)} {safe writes : Nat} {w w' : World} (h : DevE F B W d segs safe writes w) (hb : Below B W w') (hs : w.heap.size ≤ w'.heap.size) (hk : ∀ k, k < w.heap.size → ¬ F k → w'.heap[k]? = w.heap[k]?) (hF : ∀ k, F' k → F k ∨ (w.heap.size ≤ k ∧ k < w'.heap.size)) : DevE F' B W d segs safe writes w' := by
  obtain ⟨SV, vals, h⟩ := h; exact ⟨_, _, h.wide' hb hs hk hF⟩
theorem Cp.ride {B0 C : Nat} {W0 W1 w w' : World} {ss : List (List UInt8)} {v : Value} {vals : List Value} (h : Cp B0 W0 ss v vals w) (hC : C ≤ B0) (h0 : Below C W1 W0) (hb : Below C W1 w') (hs : w.heap.size ≤ w'.heap.size) (hk : ∀ x, B0 ≤ x → x < w.heap.size → w'.heap[x]? = w.heap[x]?) : Cp C W1 ss v vals w' :=
  ⟨(h.ob.out hC h0).block hb hs (fun k e => hk k (h.ob.lt k e).1 (h.ob.lt k e).2), fun i u s h1 h2 => ((h.each i u s h1 h2).out hC h0).block hb hs (fun k e => hk k ((h.each i u s h1 h2).lt k e).1 ((h.each i u s h1 h2).lt k e).2), h.ne⟩
/-- A record as a string. -/
def strV (l : List UInt8) : Value := .string ⟨l.toArray⟩
/-- What is foreign to the journal's device: what was there ahead of it, the journal, the list of what was written. -/
def FC (d j : Nat) (v : Value) (k : Nat) : Prop := k < d ∨ k = j ∨ v.ownBlock = some k
attribute [local simp] putsF isV wordOf Deps Region.binds Region.wanted Act.put wantedX isB
set_option maxHeartbeats 3200000 in
theorem journalCrash_walk (w : World) (A : Option Addr) (n c : Nat) (ds : List DeedT) (hV : Deeds4 w A n c ds) (hr : ∀ a ∈ ds, a.2.1.2.2.1 ≤ 140737488351232) (hc : c ≤ 3518437208780) (y : Int) (hy : (Lit.int .u16 y).wf = true) :
    Calls Try.prog 4 #[.slice A n c, .int .u16 y] w fun e w' => e = .returned (.bool true) ∧ Below w.heap.size w w' := by
  have hnc := hV.le
  have y16 : 0 ≤ y ∧ y < 65536 := by have := bounds_u16 hy; omega
  obtain ⟨i1, hj, hy0, hy1, hy2⟩ := info_parts crash_strs
  have HV := Lib.hid hV
  have HR := Lib.hid hr
  clear hV hr hy
  obtain ⟨y, rfl⟩ : ∃ k : Nat, y = k := ⟨y.toNat, by omega⟩
  obtain ⟨K, hK⟩ : ∃ K, K = y % 900 := ⟨_, rfl⟩
  have hK9 : K < 900 := by omega
  have hKi : (y : Int) % 900 = (K : Int) := by omega
  have HKI := Lib.hid hKi
  clear hK hKi y16
  go_enter Try.func4, Try.ntmps4
  go_wp2_with fail
  refine (awake24 _).mono ?_
  rintro e w1 ⟨rfl, hb1⟩
  have OF := Lib.hid (of_any (w1.alloc (.cells #[.slice none 0 0, .int .i64 0, .int .i64 0] 27)) w1.heap.size)
  obtain ⟨W2, hW2, h2, hj2⟩ := jrn_start w1 27 38
  have hz : (w1.alloc (.cells #[.slice none 0 0, .int .i64 0, .int .i64 0] 27)).heap.size = w1.heap.size + 1 := by simp
  obtain ⟨d, hd⟩ : ∃ d, d = w1.heap.size := ⟨_, rfl⟩
  rw [← hd] at h2 hj2
  have HD := Lib.hid hd
  have HW := Lib.hid hW2
  have HZ := Lib.hid hz
  have H2 := Lib.hid h2
  have HJ2 := Lib.hid hj2
  have HB1 := Lib.hid hb1
  clear hd hW2 hz h2 hj2 hb1
  go_wp2_with fail
  refine OF.out.mono ?_
  rintro e w3 ⟨rfl, hw3⟩
  rw [← HW.out] at hw3
  subst hw3
  rw [HZ.out, ← HD.out]
  clear OF
  obtain ⟨j, hjd⟩ : ∃ j, j = d + 1 := ⟨_, rfl⟩
  rw [← hjd] at H2 HJ2 ⊢
  clear HW HZ
  have h0 : Hid (DevE (FC d j (.slice none 0 0)) d w1 d [] 0 0 W2) := Lib.hid (H2.out.less (fun k hk => by
    rcases hk with hk | hk | hk
    · exact .inl hk
    · exact .inr hk
    · cases hk))
  have j0 : Hid (Jn2 (FC d j (.slice none 0 0)) d j W2) := Lib.hid ⟨HJ2.out.1, .inr (.inl rfl)⟩
  have o0 : Hid (OB d w1 (.slice none 0 0) ([] : List (List UInt8)).length (([] : List (List UInt8)).map strV) W2) := Lib.hid (OB.nil H2.out.bel (by obtain ⟨SV, vals, h2⟩ := H2.out; exact h2.ob.base))
  have s0 : Hid (JS [] [] [] 0 0 0) := Lib.hid JS.start
  have HJD := Lib.hid hjd
  clear hjd H2 HJ2
  go_wp2_with fail
  go_loopw [6, 7, 26] (fun v s i wr => ∃ k : Nat, k ≤ n ∧ i = .int .i64 k ∧ ∃ ch all segs sf N wt, s = .int .i64 (N : Nat) ∧ wt ≤ k ∧ Hid (JS ch all segs sf N k) ∧ Hid (OB d w1 v all.length (all.map strV) wr) ∧ Hid (DevE (FC d j v) d w1 d segs sf wt wr) ∧ Hid (Jn2 (FC d j v) d j wr) ∧ Hid (v.ownBlock ≠ some j)) (fun _ _ i _ => n - (intOf i).toNat)
  case atStart => exact ⟨0, Nat.zero_le _, rfl, [], [], [], 0, 0, 0, rfl, Nat.le_refl _, s0, o0, h0, j0, Lib.hid (fun e => by cases e)⟩
  case round =>
    obtain ⟨k, hk, rfl, ch, all, segs, sf, N, wt, rfl, hwt, HJS, how, hdv, hjv, hvj⟩ := hrel
    have hbr : Below w.heap.size w wr := below_trans HB1.out HB1.out.size (by rw [← HD.out]; exact hdv.out.bel)
    by_cases hlt : k < n
    · have hkl : k < ds.length := by rw [HV.out.len]; exact hlt
      obtain ⟨b, off, rfl, hbw, hcl⟩ := HV.out.cells (by omega)
      obtain ⟨⟨o, ⟨RA, rn, rc, rl⟩, L, M⟩, ha⟩ : ∃ a, ds[k] = a := ⟨_, rfl⟩
      have hmem := List.getElem_mem hkl
      rw [ha] at hmem
      obtain ⟨c0, c1, c2, c3⟩ := hcl k _ (by rw [List.getElem?_eq_getElem hkl, ha])
      obtain ⟨ok0, ⟨hrv, hrl⟩, ok2, ok3⟩ := HV.out.ok _ hmem
      have hrc := HR.out _ hmem
      simp only at c0 c1 c2 c3 ok0 hrv hrl ok2 ok3 hrc
      rw [show rowV (RA, rn, rc, rl) = .slice RA rn rc from rfl] at c1
      have e0 := (hbr.cell (p := ⟨b, off + k * 4, none⟩) hbw).trans c0
      have e1 := (hbr.cell (p := ⟨b, off + k * 4 + 1, none⟩) hbw).trans c1
      have e2 := (hbr.cell (p := ⟨b, off + k * 4 + 2, none⟩) hbw).trans c2
      have e3 := (hbr.cell (p := ⟨b, off + k * 4 + 3, none⟩) hbw).trans c3
      have o8 := bounds_u8 ok0
      have L8 := bounds_u8 ok2
      have hlti : (k : Int) < n := by omega
      have HRV := Lib.hid hrv
      have HRL := Lib.hid hrl
      have HBR := Lib.hid hbr
      clear c0 c1 c2 c3 ok0 ok2 ok3 hrv hrl hcl hbr
      obtain ⟨o, rfl⟩ : ∃ q : Nat, o = q := ⟨o.toNat, by omega⟩
      clear ha hmem hkl
      have hll := HJS.out.lastLe
      have hfew := HJS.out.few
      have hmany := HJS.out.many
      have hi2 : IntKind.i64.wrap ((k : Int) + 1) = (k : Int) + 1 := IntWalk.i64_in _ (by omega)
      obtain ⟨Aw, cw, rfl, -⟩ := how.out.slice
      obtain ⟨q, hq⟩ : ∃ q, q = o % 4 := ⟨_, rfl⟩
      have hqi : (o : Int) % 4 = (q : Int) := by omega
      clear hq
      go_upto_region 9 with fail
      obtain ⟨WA, hWA⟩ : ∃ WA, WA = wr.alloc (.cells #[.int .u8 o, .slice RA rn rc, .int .u8 L, .int .i8 M] 46) := ⟨_, rfl⟩
      have hzA : WA.heap.size = wr.heap.size + 1 := by rw [hWA]; simp
      have hbA : Below wr.heap.size wr WA := by rw [hWA]; exact (Below.refl _ _).alloc (Nat.le_refl _) _
      obtain ⟨g, hg⟩ : ∃ g, g = wr.heap.size := ⟨_, rfl⟩
      have a0 : WA.cell? ⟨g, 0, none⟩ = some (.int .u8 o) := by rw [hWA, hg]; simp
      have a1 : WA.cell? ⟨g, 1, none⟩ = some (.slice RA rn rc) := by rw [hWA, hg]; simp
      have a2 : WA.cell? ⟨g, 2, none⟩ = some (.int .u8 L) := by rw [hWA, hg]; simp
      have a3 : WA.cell? ⟨g, 3, none⟩ = some (.int .i8 M) := by rw [hWA, hg]; simp
      have hgW : g < WA.heap.size := by omega
      rw [← hWA, ← hg]
      have hdA := hdv.out.wide (F' := fun x => FC d j (.slice Aw all.length cw) x ∨ x = g) hbA (fun x hx => by
        rcases hx with hx | hx
        · exact .inl hx
        · exact .inr (by omega))
      have hjA : Jn2 (fun x => FC d j (.slice Aw all.length cw) x ∨ x = g) d j WA := ⟨(hjv.out.keep (Keep.below hdv.out.fl hbA)).1, .inl hjv.out.2⟩
      have hoA := how.out.keep hbA (Nat.le_refl _)
      have cj := hjA.1.get 0 _ rfl
      have qj := hjA.1.lt
      have HDA := Lib.hid hdA
      have HJA := Lib.hid hjA
      have HOA := Lib.hid hoA
      have HWA := Lib.hid hWA
      have HBA := Lib.hid hbA
      have HZA := Lib.hid hzA
      have HG := Lib.hid hg
      clear hdv hjv how hdA hjA hoA hWA hbA hzA hg
      by_cases hq3 : q = 3
      · have hq3b : ((q : Int) == 3) = true := by simp; omega
        have SY := Lib.hid (sync_any HDA.out)
        go_wp2_with fail
        refine SY.out.mono ?_
        clear SY
        rintro e w4 ⟨rfl, h4, hk4⟩
        have h5 : Hid (DevE (FC d j (.slice Aw all.length cw)) d w1 d segs (lastN segs) wt w4) := Lib.hid (h4.less (fun x hx => .inl hx))
        have j5 : Hid (Jn2 (FC d j (.slice Aw all.length cw)) d j w4) := Lib.hid ⟨(HJA.out.keep hk4).1, by have := HJA.out.2; rcases this with h | h; exact h; exact .inr (.inl rfl)⟩
        have o5 : Hid (OB d w1 (.slice Aw all.length cw) all.length (all.map strV) w4) := Lib.hid (HOA.out.block h4.bel hk4.1 (fun x e => hk4.2 x (.inl (.inr (.inr e)))))
        have s5 := Lib.hid (HJS.out.sync.mono (Nat.le_succ k))
        clear h4 hk4
        go_wp2_with fail
        go_roundw
        case rel => exact ⟨k + 1, by omega, by go_num, ch, all, segs, lastN segs, all.length, wt, rfl, by omega, s5, o5, h5, j5, hvj⟩
        case measure => simp [intOf]; omega
      · have hq3b : ((q : Int) == 3) = false := by simp; omega
        have hbrA : Below w.heap.size w WA := HBR.out.trans (HBA.out.mono HBR.out.size)
        have hrn := HRV.out.le
        obtain ⟨bl, hbl⟩ : ∃ bl, bl = deedL ((o : Int), (RA, rn, rc, rl), L, M) := ⟨_, rfl⟩
        have DB := deed_bytes (o : Int) RA rn rc rl L M (by omega) WA ((HRV.out.sl.below hbrA).more hbrA.size) (fun e => (HRV.out.none_ e).1) (by omega)
        rw [← hbl] at DB
        have DB := Lib.hid DB
        have HBL := Lib.hid hbl
        have HBRA := Lib.hid hbrA
        clear hbl hbrA
        go_wp2_with fail
        refine DB.out.mono ?_
        clear DB
        rintro e w3 ⟨A1, n1, c1, rfl, hs1, hn1, hm1, hb1⟩
        have hdl : bl.length = n1 := by simpa using hs1.1
        have d3 := HDA.out.keep hb1
        have k3 := Keep.below HDA.out.fl hb1
        have j3 := HJA.out.keep k3
        have HS1 := Lib.hid hs1
        have HN1 := Lib.hid hn1
        have HDL := Lib.hid hdl
        have HD3 := Lib.hid d3
        have HK3 := Lib.hid k3
        have HJ3 := Lib.hid j3
        have HB3 := Lib.hid hb1
        clear hs1 hn1 hdl d3 k3 j3 hb1
        by_cases h600 : n1 ≤ 600
        · have WY := Lib.hid (write_yes A1 n1 c1 bl HS1.out HN1.out h600 HD3.out HJ3.out (by omega) (by omega) (by omega))
          go_wp2_with fail
          refine WY.out.mono ?_
          clear WY
          rintro e w4 ⟨rfl, h4, hk4⟩
          have b0 := hk4.2 g (.inr rfl)
          have b3 := HB3.out.block g hgW
          have x0 := (World.cell?_of_block (a := ⟨g, 0, none⟩) (b0.trans b3)).trans a0
          have x1 := (World.cell?_of_block (a := ⟨g, 1, none⟩) (b0.trans b3)).trans a1
          have x2 := (World.cell?_of_block (a := ⟨g, 2, none⟩) (b0.trans b3)).trans a2
          have x3 := (World.cell?_of_block (a := ⟨g, 3, none⟩) (b0.trans b3)).trans a3
          have hb4 : Below w.heap.size w w4 := below_trans HB1.out HB1.out.size (by rw [← HD.out]; exact h4.bel)
          have DB := deed_bytes (o : Int) RA rn rc rl L M (by omega) w4 ((HRV.out.sl.below hb4).more hb4.size) (fun e => (HRV.out.none_ e).1) (by omega)
          rw [← HBL.out] at DB
          have DB := Lib.hid DB
          have H4 := Lib.hid h4
          have HK4 := Lib.hid hk4
          have o4 := Lib.hid (HOA.out.block h4.bel (Nat.le_trans HB3.out.size hk4.1) (fun x e => by
            have e1 := hk4.2 x (.inl (.inr (.inr e)))
            have e2 := HK3.out.2 x (.inl (.inr (.inr e)))
            exact e1.trans e2))
          clear h4 hk4 hb4 b0 b3
          go_wp2_with fail
          refine DB.out.mono ?_
          clear DB
          rintro e w5 ⟨A2, n2, c2, rfl, hs2, hn2, hm2, hb5⟩
          obtain ⟨RL, hRL⟩ : ∃ RL, RL = ByteArray.mk bl.toArray := ⟨_, rfl⟩
          have hcv := run_string_of (P := Try.prog) w5 23 9 5 _ A2 n2 bl Try.underlying23 Try.underlying5 Try.underlying9 hs2 hn2 c2
          rw [← hRL] at hcv
          have o5 := o4.out.keep hb5 (Nat.le_refl _)
          have h5 := H4.out.keep hb5
          have hk5 := Keep.below H4.out.fl hb5
          have hnew := o5.alloc (.cells #[.string RL] 9)
          have hsrc := Src.ofSlice (P := Try.prog) (size := 1) (w5.alloc (.cells #[.string RL] 9)) Try.underlying43 ⟨w5.heap.size, 0, none⟩ 1 1 [.string RL] rfl (news_at w5 #[.string RL] 9) (by intro u hu; simp at hu; subst hu; rfl)
          have H5 := Lib.hid h5
          have HK5 := Lib.hid hk5
          have HRL := Lib.hid hRL
          clear h5 hk5 o4 hs2 hn2 hRL
          go_wp2_with (at_builtin; go_loud (refine wpList_append_ob rfl _ _ 43 43 rfl 9 i1 _ 16 Try.underlying43 hj hy0 hy1 hy2 rfl hnew rfl rfl hsrc (by unfold maxLen; omega) (by omega) ?_))
          intro v' w6 o1 o2 o3 o4
          obtain ⟨WB, hWB⟩ : ∃ WB, WB = w5.alloc (.cells #[.string RL] 9) := ⟨_, rfl⟩
          have hz : WB.heap.size = w5.heap.size + 1 := by rw [hWB]; simp
          have hbB : Below w5.heap.size w5 WB := by rw [hWB]; exact (Below.refl _ _).alloc (Nat.le_refl _) _
          rw [← hWB, ← hz] at o3
          rw [← hz] at o2 o4
          have hB := H5.out.keep hbB
          have kB := Keep.below H5.out.fl hbB
          have h6 : DevE (fun x => FC d j v' x ∨ x = g) d w1 d (wrS segs bl) (wrSafe segs sf bl) (wt + 1) w6 := hB.wideC o1.bel o2 (fun q hq hn => o3 q hq (fun e => hn (.inl (.inr (.inr e.symm))))) (fun q hq => by
            rcases hq with (hq | hq | hq) | hq
            · exact .inl (.inl (.inl hq))
            · exact .inl (.inl (.inr (.inl hq)))
            · rcases o4 with e | e
              · rw [e] at hq; exact .inl (.inl (.inr (.inr hq)))
              · have h9 := (o1.lt q hq).2
                rw [e] at hq; injection hq with hq; exact .inr (by omega)
            · exact .inl (.inr hq))
          have h6' : Hid (DevE (FC d j v') d w1 d (wrS segs bl) (wrSafe segs sf bl) (wt + 1) w6) := Lib.hid (h6.less (fun x hx => .inl hx))
          have c6 : Cs w6 j [.pointer (some ⟨d, 0, none⟩)] := by
            have q5 := ((HJ3.out.keep HK4.out).keep HK5.out).keep kB
            refine q5.1.block (o3 j q5.1.lt (fun e => hvj.out e.symm)) o2
          have vj6 : Hid (v'.ownBlock ≠ some j) := Lib.hid (fun e => by
            rcases o4 with r | r
            · exact hvj.out (r.symm.trans e)
            · have q5 := (((HJ3.out.keep HK4.out).keep HK5.out).keep kB).1.lt
              rw [e] at r; injection r with r; omega)
          have j6 : Hid (Jn2 (FC d j v') d j w6) := Lib.hid ⟨c6, .inr (.inl rfl)⟩
          have o6 : Hid (OB d w1 v' (all ++ [bl]).length ((all ++ [bl]).map strV) w6) := Lib.hid (by
            have e1 : (all ++ [bl]).map strV = all.map strV ++ [.string RL] := by rw [List.map_append, HRL.out]; rfl
            rw [e1, List.length_append]
            exact o1)
          obtain ⟨ch', hch⟩ := HJS.out.write bl (by rw [HDL.out]; exact h600)
          have s6 := Lib.hid hch
          clear h6 hch c6 o1 o2 o3 o4 hz hbB hB kB hWB hcv hnew hsrc H5 HK5
          go_wp2_with fail
          go_roundw
          case rel => exact ⟨k + 1, by omega, by go_num, ch', all ++ [bl], _, _, N, wt + 1, rfl, by omega, s6, o6, h6', j6, vj6⟩
          case measure => simp [intOf]; omega
        · have WN := Lib.hid (write_no (j := j) A1 n1 c1 w3 (by omega) (by unfold maxLen; omega))
          go_wp2_with fail
          refine WN.out.mono ?_
          clear WN
          rintro e w4 ⟨⟨T, v4, rfl⟩, rfl⟩
          have h5 : Hid (DevE (FC d j (.slice Aw all.length cw)) d w1 d segs sf wt w3) := Lib.hid (HD3.out.less (fun x hx => .inl hx))
          have j5 : Hid (Jn2 (FC d j (.slice Aw all.length cw)) d j w3) := Lib.hid ⟨HJ3.out.1, by have := HJA.out.2; rcases this with h | h; exact h; exact .inr (.inl rfl)⟩
          have o5 : Hid (OB d w1 (.slice Aw all.length cw) all.length (all.map strV) w3) := Lib.hid (HOA.out.keep HB3.out (Nat.le_refl _))
          have s5 := Lib.hid (HJS.out.mono (Nat.le_succ k))
          go_wp2_with fail
          go_roundw
          case rel => exact ⟨k + 1, by omega, by go_num, ch, all, segs, sf, N, wt, rfl, by omega, s5, o5, h5, j5, hvj⟩
          case measure => simp [intOf]; omega
    · obtain rfl : k = n := by omega
      have hlt' : ¬ (k : Int) < k := by omega
      have hKi := HKI.out
      have hfew := HJS.out.few
      have hmany := HJS.out.many
      obtain ⟨Aw, cw, rfl, hwc, -, hw0⟩ := how.out.slice
      have CR := crash_any (K : Int) (by omega) (by omega) hdv.out HJS.out.safeLe
      rw [Int.toNat_natCast] at CR
      have CR := Lib.hid CR
      obtain ⟨ch2, ht, hjs2, g1, g2, g3, g4, g5⟩ := HJS.out.cut K
      have cj := hjv.out.1.get 0 _ rfl
      have qj := hjv.out.1.lt
      have hlc : (cutS segs (sf + K)).length = segs.length := cutS_len _ _
      have hlm : lastN (cutS segs (sf + K)) = min (sf + K) (lastN segs) := cutS_last _ _
      obtain ⟨S2, hS2⟩ : ∃ S2, S2 = cutS segs (sf + K) := ⟨_, rfl⟩
      rw [← hS2] at CR ht g4 g5 hlc hlm
      rw [← hlm] at CR
      obtain ⟨R, hR⟩ : ∃ R, R = ch2.flatten := ⟨_, rfl⟩
      rw [← hR] at g1 g2 g3
      have HRR := Lib.hid hR
      clear hR
      have HT := Lib.hid ht
      have HJS2 := Lib.hid hjs2
      have HG3 := Lib.hid g3
      have HG5 := Lib.hid g5
      have HF := Lib.hid hdv.out.fl
      clear hbr HJS ht hjs2 g3 g5 hS2 hlm
      go_wp2_with fail
      refine CR.out.mono ?_
      clear CR
      rintro e w2 ⟨rfl, h2, hk2⟩
      have j2 := hjv.out.keep hk2
      have o2 := how.out.block h2.bel hk2.1 (fun q e => hk2.2 q (.inr (.inr e)))
      have RT := read_torn h2 HT.out (by omega) HG5.out (by rw [← HRR.out]; omega)
      rw [← HRR.out] at RT
      have RT := Lib.hid RT
      have cj2 := j2.1.get 0 _ rfl
      have qj2 := j2.1.lt
      have H2 := Lib.hid h2
      have J2 := Lib.hid j2
      have O2 := Lib.hid o2
      clear h2 j2 o2 hk2 how hjv hdv cj qj hKi
      go_wp2_with fail
      refine RT.out.mono ?_
      clear RT
      rintro e w3 ⟨v3, vs3, b3, rfl, hc3, -⟩
      have h3 := H2.out.keep hc3.ob.bel
      have k3 := Keep.below H2.out.fl hc3.ob.bel
      have j3 := J2.out.keep k3
      have o3 := O2.out.keep hc3.ob.bel (Nat.le_refl _)
      have cj3 := j3.1.get 0 _ rfl
      have qj3 := j3.1.lt
      have LA := Lib.hid (last_any h3)
      have H3 := Lib.hid h3
      have J3 := Lib.hid j3
      have O3 := Lib.hid o3
      obtain ⟨A3, c3, rfl, -⟩ := hc3.ob.slice
      clear h3 j3 o3 k3 hc3 H2 J2 O2 cj2 qj2
      go_wp2_with fail
      refine LA.out.mono ?_
      clear LA
      rintro e w4 ⟨rfl, q4, rfl⟩
      have h4 := H3.out.drewN q4
      have k4 := Keep.drewN (FC d j (.slice Aw all.length cw)) w3 q4
      have j4 := J3.out.keep k4
      have o4 := O3.out.drewN q4
      generalize w3.drewN q4 = w4 at *
      have RC := Lib.hid (rec_torn h4 j4 HT.out (Nat.le_refl _) (by omega) HG5.out)
      have O4 := Lib.hid o4
      have J4 := Lib.hid j4
      clear h4 o4 j4 k4 H3 J3 O3 cj3 qj3
      go_wp2_with fail
      refine RC.out.mono ?_
      clear RC
      rintro e w5 ⟨rfl, h5, hk5⟩
      have j5 := J4.out.keep hk5
      have o5 := O4.out.block h5.bel hk5.1 (fun q e => hk5.2 q (.inr (.inr e)))
      have RT := read_torn h5 (Torn.whole HJS2.out.small) (by have := HJS2.out.few; omega) HJS2.out.short (by rw [← HRR.out]; omega)
      rw [← HRR.out] at RT
      have RT := Lib.hid RT
      have cj5 := j5.1.get 0 _ rfl
      have qj5 := j5.1.lt
      have H5 := Lib.hid h5
      have J5 := Lib.hid j5
      have O5 := Lib.hid o5
      clear h5 j5 o5 hk5 O4 J4
      go_wp2_with fail
      refine RT.out.mono ?_
      clear RT
      rintro e w6 ⟨v6, vs6, b6, rfl, hc6, hb6⟩
      obtain rfl := hb6 trivial
      have h6 := H5.out.wide (F' := fun x => FC d j (.slice Aw all.length cw) x ∨ (w5.heap.size ≤ x ∧ x < w6.heap.size)) hc6.ob.bel (fun x hx => hx)
      have k6 := Keep.below H5.out.fl hc6.ob.bel
      have j6 : Jn2 (fun x => FC d j (.slice Aw all.length cw) x ∨ (w5.heap.size ≤ x ∧ x < w6.heap.size)) d j w6 := ⟨(J5.out.keep k6).1, .inl J5.out.2⟩
      have hb5 : Below d w1 w5 := H5.out.bel
      have hd5 : d ≤ w5.heap.size := by
        obtain ⟨SV, vals, h5⟩ := H5.out
        exact h5.ob.base
      have HB5 := Lib.hid hb5
      have HD5 := Lib.hid hd5
      clear hb5 hd5
      have o6 := O5.out.keep hc6.ob.bel (Nat.le_refl _)
      have cj6 := j6.1.get 0 _ rfl
      have qj6 := j6.1.lt
      have LA := Lib.hid (last_any h6)
      have H6 := Lib.hid h6
      have J6 := Lib.hid j6
      have O6 := Lib.hid o6
      have C6 := Lib.hid hc6
      obtain ⟨A6, c6, rfl, -⟩ := hc6.ob.slice
      clear h6 j6 o6 k6 hc6 hb6 H5 J5 O5 cj5 qj5
      have hLb1 : lastN (segF ch2) ≤ 2048 := HJS2.out.lastLe
      have hLa1 : lastN S2 ≤ 2048 := by
        rcases segs_cases S2 with e | ⟨init, s, e⟩
        · rw [e]; exact Nat.zero_le _
        · rw [e, lastN_snoc]; exact HG5.out s (by rw [e]; simp)
      obtain ⟨La, hLa⟩ : ∃ La, La = lastN S2 := ⟨_, rfl⟩
      obtain ⟨Lb, hLb⟩ : ∃ Lb, Lb = lastN (segF ch2) := ⟨_, rfl⟩
      obtain ⟨D, hD⟩ : ∃ D, D = La - Lb := ⟨_, rfl⟩
      rw [← hLb] at LA H6
      rw [← hLa, ← hLb] at g4 ⊢
      rw [← hLb] at hLb1
      rw [← hLa] at hLa1
      rw [← hD]
      have HLB := Lib.hid hLb
      have t1 : ¬ (R.length : Int) < N := by omega
      have t2 : ¬ (all.length : Int) < R.length := by omega
      have t1' : decide (R.length < N) = false := by simp; omega
      have t2' : decide (all.length < R.length) = false := by simp; omega
      have t3 : ((R.length : Int) != (R.length : Int)) = false := by simp
      have t4 : IntKind.i64.wrap ((La : Int) - Lb) = (D : Int) := by rw [IntWalk.i64_in _ (by omega)]; omega
      have t5 : ((D : Int) != (D : Int)) = false := by simp
      clear hLa hLb hD
      go_wp2_with fail
      refine LA.out.mono ?_
      clear LA
      rintro e w7 ⟨rfl, q7, rfl⟩
      have h7 := H6.out.drewN q7
      have k7 := Keep.drewN (fun x => FC d j (.slice Aw all.length cw) x ∨ (w5.heap.size ≤ x ∧ x < w6.heap.size)) w6 q7
      have j7 := J6.out.keep k7
      have o7 := O6.out.drewN q7
      have C7 := C6.out.keep (below_drewN (Below.refl _ _) q7)
      have hz7 : (w6.drewN q7).heap.size = w6.heap.size := rfl
      generalize w6.drewN q7 = w7 at *
      have h7 : DevE (fun x => FC d j (.slice Aw all.length cw) x ∨ (w5.heap.size ≤ x ∧ x < w6.heap.size)) d w1 d (segF ch2) (lastN (segF ch2)) wt w7 := by rw [HLB.out] at h7; exact h7
      have RC := rec_torn h7 j7 (Torn.whole HJS2.out.small) (Nat.le_refl _) (by have := HJS2.out.few; omega) HJS2.out.short
      rw [show lastN (segF ch2) - lastN (segF ch2) = 0 from Nat.sub_self _] at RC
      have RC := Lib.hid RC
      have O7 := Lib.hid o7
      have J7 := Lib.hid j7
      have C7 := Lib.hid C7
      have HZ7 := Lib.hid hz7
      clear h7 o7 j7 k7 H6 J6 O6 C6 cj6 qj6 hz7
      go_wp2_with fail
      refine RC.out.mono ?_
      clear RC
      rintro e w8 ⟨rfl, h8, hk8⟩
      have C8 : Hid (Cp d w1 R (.slice A6 R.length c6) vs6 w8) := Lib.hid (C7.out.ride HD5.out HB5.out h8.bel hk8.1 (fun x h1 h2 => hk8.2 x (.inr ⟨h1, by rw [← HZ7.out]; exact h2⟩)))
      have O8 := Lib.hid (O7.out.block h8.bel hk8.1 (fun q e => hk8.2 q (.inl (.inr (.inr e)))))
      have J8 := Lib.hid (J7.out.keep hk8)
      have hb8 : Below w.heap.size w w8 := below_trans HB1.out HB1.out.size (by rw [← HD.out]; exact h8.bel)
      have H8 := Lib.hid h8
      have HB8 := Lib.hid hb8
      clear h8 hk8 hb8 C7 O7 J7
      go_wp2_with fail
      have hRM : R.length ≤ k := by omega
      have HRA := HG3
      go_loopw [124] (fun i wr => ∃ q : Nat, q ≤ R.length ∧ i = .int .i64 q ∧ Below w8.heap.size w8 wr) (fun i _ => R.length - (intOf i).toNat)
      case atStart => exact ⟨0, Nat.zero_le _, rfl, Below.refl _ _⟩
      case round =>
        obtain ⟨q, hq', rfl, hbw⟩ := hrel
        by_cases hlt2 : q < R.length
        · have hlt2i : (q : Int) < R.length := by omega
          obtain ⟨gs, Aj, cj, cap, hvv, -, q6, y6, k1, k2, k3, ks⟩ := C8.out.at_ q hlt2
          injection hvv with hv1 hv2 hv3
          subst hv1
          rcases O8.out.own with ⟨r, r0⟩ | ⟨gw, cap2, r, s1, s2, s3, s4, s5, s6⟩
          · omega
          injection r with r1 r2 r3
          subst r1
          obtain ⟨sk, hsk⟩ : ∃ sk, sk = R[q] := ⟨_, rfl⟩
          rw [← hsk] at y6 k1 k3 ks
          obtain ⟨lk, hlk⟩ : ∃ lk, lk = sk.length := ⟨_, rfl⟩
          rw [← hlk] at y6 k1 k3 ks
          have hqa : all[q]? = some sk := HRA.out q sk (by rw [hsk]; exact List.getElem?_eq_getElem hlt2)
          obtain ⟨RK, hRK⟩ : ∃ RK, RK = ByteArray.mk sk.toArray := ⟨_, rfl⟩
          have d6 : w8.cell? ⟨gw, q, none⟩ = some (.string RK) := s6 q _ (by rw [List.getElem?_map, hqa, hRK]; rfl)
          have q7 : gs < wr.heap.size := Nat.lt_of_lt_of_le q6 hbw.size
          have q8 : gw < wr.heap.size := Nat.lt_of_lt_of_le s2 hbw.size
          have c7 := (hbw.cell (p := ⟨gs, q, none⟩) q6).trans y6
          have c8 := (hbw.cell (p := ⟨gw, q, none⟩) s2).trans d6
          have KS : Hid (Sl wr wr.heap.size 1 Aj lk (sk.map bv)) := Lib.hid ((ks.sl.below hbw).more hbw.size)
          have HK3 : Hid (Aj = none → lk = 0) := Lib.hid (fun e => (k3 e).1)
          have HRK := Lib.hid hRK
          have hi2 : IntKind.i64.wrap ((q : Int) + 1) = (q : Int) + 1 := IntWalk.i64_in _ (by omega)
          have hqA : (q : Int) < all.length := by omega
          clear hsk hlk hRK d6 y6 ks k1 k3 s5 s6 hqa s3 s4 k2 r2 r3 hv2 hv3
          go_upto_region 25 with fail
          refine wp_region_goesG dev_follows (fun x => by simp [putsF, Act.put]; rfl) wr.heap.size wr
            [isV (.slice (some ⟨gs, 0, none⟩) R.length c6), isV (.int .i64 q), isV (.pointer (some ⟨gs, q, none⟩)), isV (.slice Aj lk cj), isV (.string RK), isV (.slice (some ⟨gw, 0, none⟩) all.length cw), isV (.int .i64 q), isV (.pointer (some ⟨gw, q, none⟩)), isV (.string RK), isV (.bool false)]
            (by kernel_rfl) (by kernel_rfl) (by kernel_rfl) rfl ?_ (Below.refl _ _) ?_ ?_
          · repeat (first | exact trivial | refine ⟨isV_stays _, ?_⟩)
          · refine ⟨?_, ?_, ?_, ?_, ?_, ?_, ?_, ?_, ?_, ?_, trivial⟩
            all_goals
              intro x wx hR hd
              simp at hd ⊢
            all_goals try simp [hd]
            all_goals first
              | (go_simp; exact next_same _ rfl rfl hR)
              | (have f0 := (hR.cell (p := ⟨gs, q, none⟩) q7).trans c7; go_simp; exact next_same _ rfl rfl hR)
              | (have f0 := (hR.cell (p := ⟨gw, q, none⟩) q8).trans c8; go_simp; exact next_same _ rfl rfl hR)
              | (have hv := run_string_of (P := Try.prog) wx 23 9 5 _ Aj lk sk Try.underlying23 Try.underlying5 Try.underlying9 (KS.out.below hR) HK3.out cj; rw [← HRK.out] at hv; go_simp; exact next_same _ rfl rfl hR)
              | skip
            all_goals trace_state
          intro x wy hby hx
          simp [AllWords] at hx ⊢
          have hx29 : x 9 = .bool false := by simp [hx]
          clear hx
          rw [hx29]
          have hbw' := hbw.trans (hby.mono hbw.size)
          go_wp2_with fail
          go_roundw
          case rel => exact ⟨q + 1, by omega, by go_num, hbw'⟩
          case measure => simp [intOf]; omega
        · obtain rfl : q = R.length := by omega
          have hlt2i : ¬ (R.length : Int) < R.length := by omega
          have h9 := H8.out.keep hbw
          have k9 := Keep.below H8.out.fl hbw
          have j9 := J8.out.keep k9
          have hRw : IntKind.i64.wrap ((R.length : Int) + 1) = (R.length : Int) + 1 := IntWalk.i64_in _ (by omega)
          have cj9 := j9.1.get 0 _ rfl
          have qj9 := j9.1.lt
          have kc := Lib.run_convert_bytes_const (P := Try.prog) wr 23 5 #[.int .u8 122] 1 1 Try.underlying23 Try.underlying5
          have W1 := Lib.hid (write_const #[.int .u8 122] 5 1 2 [122] rfl 1 1 rfl (by decide) h9 j9 (by have := HJS2.out.lastLe; omega) (by have := HJS2.out.few; omega) (by omega))
          have H9 := Lib.hid h9
          have J9 := Lib.hid j9
          clear h9 k9 j9
          go_wp2_with fail
          refine W1.out.mono ?_
          clear W1 kc
          rintro e w9 ⟨rfl, h10, k10⟩
          have j10 := J9.out.keep k10
          have cj10 := j10.1.get 0 _ rfl
          have qj10 := j10.1.lt
          obtain ⟨ch3, hjs3⟩ := HJS2.out.write [122] (by decide)
          obtain ⟨S3, hS3⟩ : ∃ S3, S3 = wrS (segF ch2) [122] := ⟨_, rfl⟩
          rw [← hS3] at h10 hjs3
          have hS3e : S3 = segF ch3 := hjs3.sg
          have hR3 : ch3.flatten = R ++ [[122]] := by rw [HRR.out]; exact hjs3.al.symm
          rw [hS3e] at h10
          have RT := read_torn h10 (Torn.whole hjs3.small) (by have := hjs3.few; rw [hS3e] at this; omega) (by have := hjs3.short; rw [hS3e] at this; exact this) (by rw [hR3]; simp; omega)
          rw [hR3] at RT
          obtain ⟨RZ, hRZ⟩ : ∃ RZ, RZ = R ++ [[122]] := ⟨_, rfl⟩
          rw [← hRZ] at RT
          have hRZl : RZ.length = R.length + 1 := by rw [hRZ]; simp
          have RT := Lib.hid RT
          have H10 := Lib.hid h10
          have HRZ := Lib.hid hRZ
          clear h10 k10 j10 hS3 hjs3 hS3e hR3 hRZ cj9 qj9
          go_wp2_with fail
          refine RT.out.mono ?_
          clear RT
          rintro e w11 ⟨v11, vs11, b11, rfl, hc11, hb11⟩
          obtain rfl := hb11 trivial
          have hb11' := H10.out.keep hc11.ob.bel
          have hbel : Below w.heap.size w w11 := below_trans HB1.out HB1.out.size (by rw [← HD.out]; exact hb11'.bel)
          obtain ⟨g2, A2, c2, cap2, rfl, -, q12, c12, k1, k2, k3, ks⟩ := hc11.at_ R.length (by rw [hRZl]; omega)
          have hgz : RZ[R.length]'(by rw [hRZl]; omega) = [122] := by
            have : ∀ (l : List (List UInt8)) (h : R.length < l.length), l = R ++ [[122]] → l[R.length] = [122] := by
              intro l h e; subst e; simp
            exact this _ _ HRZ.out
          rw [hgz] at c12 k1 k3 ks
          have c12 : w11.cell? ⟨g2, R.length, none⟩ = some (.slice A2 1 c2) := c12
          have hcv := run_string_of (P := Try.prog) w11 23 9 5 _ A2 1 [122] Try.underlying23 Try.underlying5 Try.underlying9 ks.sl (fun h => (k3 h).1) c2
          rw [hRZl]
          have u1 : (((R.length + 1 : Nat) : Int) == (R.length : Int) + 1) = true := by simp
          have u2 : (R.length : Int) < ((R.length + 1 : Nat) : Int) := by omega
          have HBEL := Lib.hid hbel
          clear hc11 hb11 hb11' ks k1 k2 k3 hbel hgz H10 cj10 qj10
          go_wp2_with fail
          go_ret
          exact ⟨rfl, HBEL.out⟩
end Go.Proofs.Ytidpffgdndjgpaa
