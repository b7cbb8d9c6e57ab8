/- The walk of PointWrite. -/
import Derived.Test.YtliofipccicnfaaPtV
namespace Go.Proofs.Ytliofipccicnfaa
open Go.RowKit
set_option linter.unusedVariables false
set_option linter.unusedSimpArgs false
set_option maxRecDepth 20000
theorem wrap64_nat (x : Nat) (h : x ≤ 100000) : wrap64 (x : Int) = x := by
  unfold wrap64; omega
theorem ptr_facts (tq : Nat) (h : tq < 16384) : ∃ t1 p1 p2 : Nat, ((tq : Int)).tdiv 256 = t1 ∧ (192 : Int) + t1 = p1 ∧ ((tq : Int)).tmod 256 = p2 ∧ (p1 : Int) % 256 = p1 ∧ wrap64 (t1 : Int) = t1 ∧ wrap64 (p1 : Int) = p1 ∧ (ptrB tq).map bv = [.int .u8 ((p1 : Int) % 256), .int .u8 ((p2 : Int) % 256)] := by
  refine ⟨tq / 256, 192 + tq / 256, tq % 256, ?_, by omega, ?_, by omega, wrap64_nat _ (by omega), wrap64_nat _ (by omega), ?_⟩
  rotate_right
  · rw [ptr_bytes tq h, show (((192 + tq / 256 : Nat) : Int) % 256) = ((192 + tq / 256 : Nat) : Int) by omega, show (((tq % 256 : Nat) : Int) % 256) = ((tq % 256 : Nat) : Int) by omega]
  · rw [Int.tdiv_eq_ediv_of_nonneg (by omega)]; omega
  · rw [Int.tmod_eq_emod_of_nonneg (by omega)]; omega
theorem mkBA_app (a b : List UInt8) : mkBA a ++ mkBA b = mkBA (a ++ b) := by
  apply ByteArray.ext; apply Array.ext'
  simp [mkBA]
theorem mkBA_size (a : List UInt8) : (mkBA a).size = a.length := by simp [mkBA, ByteArray.size]
theorem mkBA_of (s : ByteArray) (l : List UInt8) (h : s.data.toList = l) : s = mkBA l := by
  apply ByteArray.ext; apply Array.ext'; simp [mkBA, h]
theorem wrS_pos : ∀ (ls : NameL) (es : List (ByteArray × Nat)) (a : Nat), 1 ≤ (wrS es a ls).1.length
  | [], es, a => by simp [wrS]
  | x :: ls, es, a => by
    unfold wrS
    split
    · simp [ptrB]
    · simp
set_option maxHeartbeats 6400000 in
theorem pointWrite_walk (w : World) (A : Option Addr) (n c : Nat) (rs : List RowT) (hV : SlView w A n c (rs.map rowV)) (hl : rs.length = n) (hr : ∀ r ∈ rs, RowOk w r ∧ r.2.2.1 ≤ 140737488351232) (hc : c ≤ 5864062014634)
    (y : Int) (hy : (Lit.int .u8 y).wf = true) :
    Calls Try.prog 4 #[.slice A n c, .int .u8 y] w fun e w' => e = .returned (.bool true) ∧ Below w.heap.size w w' := by
  have hnc := hV.le
  have hSA : Sl w w.heap.size 1 A n (rs.map rowV) := hV.sl
  have y8 := bounds_u8 hy
  obtain ⟨y, rfl⟩ : ∃ k : Nat, y = k := ⟨y.toNat, by omega⟩
  obtain ⟨d, hd⟩ : ∃ d : Nat, y % 20 = d := ⟨_, rfl⟩
  have hd20 : d < 20 := by omega
  obtain ⟨Z, hZ, hMK⟩ := make_zeros d hd20
  have hd' : ((y : Int)).tmod 20 = d := by rw [Int.tmod_eq_emod_of_nonneg (by omega)]; omega
  obtain ⟨N, hN⟩ : ∃ N, N = min n 40 := ⟨_, rfl⟩
  have HN := Lib.hid hN
  have hNn : N ≤ n := by omega
  have hN40 : N ≤ 40 := by omega
  have hnb8 : n ≤ 5864062014634 := by omega
  have CELL : Hid (∀ k, k < N → ∃ b off r, A = some ⟨b, off, none⟩ ∧ b < w.heap.size ∧ rs[k]? = some r ∧ w.cell? ⟨b, off + k, none⟩ = some (.slice r.1 r.2.1 r.2.2.1)) := Lib.hid (fun k hk => by
    obtain ⟨b, off, u, hA, hb, hu, hcl⟩ := hSA.at_ (show k < n by omega)
    have hkl : k < rs.length := by omega
    refine ⟨b, off, rs[k], hA, hb, List.getElem?_eq_getElem hkl, ?_⟩
    rw [hcl]
    simp only [List.getElem?_map, List.getElem?_eq_getElem hkl, Option.map_some] at hu
    exact hu.symm)
  have CELLB : Hid (∀ k, k < n → ∃ (b off : Nat) (r : RowT), A = some ⟨b, off, none⟩ ∧ b < w.heap.size ∧ w.cell? ⟨b, off + k, none⟩ = some (.slice r.1 r.2.1 r.2.2.1)) := Lib.hid (fun k hk => by
    obtain ⟨b, off, u, hA, hb, hu, hcl⟩ := hSA.at_ hk
    have hkl : k < rs.length := by omega
    refine ⟨b, off, rs[k], hA, hb, ?_⟩
    rw [hcl]
    simp only [List.getElem?_map, List.getElem?_eq_getElem hkl, Option.map_some] at hu
    exact hu.symm)
  have NAME : Hid (∀ k r, rs[k]? = some r → ∀ wx, Below w.heap.size w wx → Calls Try.prog 10 #[.slice r.1 r.2.1 r.2.2.1] wx fun e w' => e = .returned (.string (keyOf (rowN r))) ∧ Below wx.heap.size wx w') := Lib.hid (fun k r hk wx hb => row_name r w (hr r (List.mem_of_getElem? hk)).1 (hr r (List.mem_of_getElem? hk)).2 wx hb)
  obtain ⟨L0, hL0⟩ : ∃ L0, L0 = List.replicate d (0 : UInt8) := ⟨_, rfl⟩
  have hL0l : L0.length = d := by rw [hL0]; simp
  rw [← hL0] at hZ
  have HL0 := Lib.hid hL0l
  obtain ⟨F, hF⟩ : ∃ F, F = runS L0 [] (namesR rs N) := ⟨_, rfl⟩
  have HJ0 : Hid (RunJ F L0 [] ((namesR rs N).drop 0) (N - 0)) := Lib.hid ⟨by rw [List.drop_zero]; exact hF.symm, by omega, by simp, fun ls q _ h => by simp [lk] at h⟩
  have HFS : Hid (F.1.length ≤ 4000) := Lib.hid (HJ0.out.small (by rw [List.drop_zero, Nat.sub_zero]; unfold namesR; simp; omega) (fun m hm => by
    rw [List.drop_zero] at hm
    unfold namesR at hm
    obtain ⟨r, -, rfl⟩ := List.mem_map.1 hm
    exact rowN_good r))
  have HF := Lib.hid hF
  have HMK := Lib.hid hMK
  have HZL := Lib.hid hZ
  clear hV hl hr hy y8 hd hSA hL0 hL0l hF hMK hZ hN hc
  go_enter Try.func4, Try.ntmps4
  go_wp2_with fail
  refine (awake03 _).mono ?_
  rintro e w1 ⟨rfl, hb1⟩
  have HB1 := Lib.hid hb1
  have hmk := HMK.out
  clear hb1
  go_upto_region 4 with fail
  have hO := OB.fresh HB1.out HB1.out.size Z 5 d (L0.map bv) HZL.out (by have := congrArg List.length HZL.out; simp [HL0.out] at this; exact this) (by unfold maxLen; omega)
  have hz1 : (w1.alloc (.cells Z 5)).heap.size = w1.heap.size + 1 := by simp
  generalize w1.alloc (.cells Z 5) = W2 at *
  obtain ⟨p, hp⟩ : ∃ p, w1.heap.size = p := ⟨_, rfl⟩
  have hwp : w.heap.size ≤ p := by have := HB1.out.size; omega
  rw [hp] at hO hz1 ⊢
  clear hp
  have hC := Cs.new W2 #[.slice (some ⟨p, 0, none⟩) d d, .map none] 33 [.slice (some ⟨p, 0, none⟩) d d, .map none]
  have hO2 := hO.alloc (.cells #[.slice (some ⟨p, 0, none⟩) d d, .map none] 33)
  rw [hz1] at hC
  generalize W2.alloc (.cells #[.slice (some ⟨p, 0, none⟩) d d, .map none] 33) = W3 at *
  obtain ⟨b, hb⟩ : ∃ b, p + 1 = b := ⟨_, rfl⟩
  have hpb : p < b := by omega
  rw [hb] at hC ⊢
  have hne : (Value.slice (some ⟨p, 0, none⟩) d d).ownBlock ≠ some b := by
    intro e
    have e : p = b := by simpa [Value.ownBlock] using e
    omega
  have HW0 : Hid (WS w w.heap.size b L0 [] W3) := Lib.hid (.inl ⟨rfl, .slice (some ⟨p, 0, none⟩) d d, by rw [HL0.out]; exact hO2, hC, hne, by omega⟩)
  have c0 := hC.get 0 _
  have q0 := hC.lt
  have hne2 : (Value.slice (some ⟨p, 0, none⟩) d d).ownBlock ≠ some W3.heap.size := by
    intro e
    have e : p = W3.heap.size := by simpa [Value.ownBlock] using e
    omega
  have HQ0 : Hid (WSq w w.heap.size b W3.heap.size (.map #[] 0) L0 [] (W3.alloc (.map #[] 0))) := Lib.hid (.inl ⟨rfl, .slice (some ⟨p, 0, none⟩) d d, by rw [HL0.out]; exact hO2.alloc _, hC.alloc _, hne, by omega, (MapKept.heap_alloc W3 _).1, by omega, hne2, by simp⟩)
  have HB3 : Hid (w.heap.size ≤ W3.heap.size) := Lib.hid (by omega)
  clear hne2
  clear hb hz1 hO hO2 hC hpb hwp hmk hne
  have hmm := @run_makeMap Try.prog
  go_upto_region 6 with fail
  have HM0 := Lib.hid (SM.new W3)
  obtain ⟨gs, hgs⟩ : ∃ gs, gs = W3.heap.size := ⟨_, rfl⟩
  rw [← hgs] at HM0 HQ0 HB3 ⊢
  clear hgs
  generalize W3.alloc (.map #[] 0) = W4 at *
  have HQE : Hid (∃ ob, WSq w w.heap.size b gs ob L0 [] W4) := Lib.hid ⟨_, HQ0.out⟩
  clear HQ0 HW0 c0 q0 hmm
  go_wp2_with fail
  go_loopw [31] (fun i wr => ∃ (k : Nat) (Lk : List UInt8) (es : List (ByteArray × Nat)), k ≤ N ∧ i = .int .i64 (k : Nat) ∧ Hid (∃ ob, WSq w w.heap.size b gs ob Lk es wr) ∧ Hid (SM wr gs (esV es)) ∧ Hid (RunJ F Lk es ((namesR rs N).drop k) (N - k)) ∧ Hid (d ≤ Lk.length)) (fun i _ => N - (intOf i).toNat)
  case atStart => exact ⟨0, L0, [], Nat.zero_le _, rfl, HQE, HM0, HJ0, Lib.hid (by rw [HL0.out]; exact Nat.le_refl _)⟩
  case round =>
    obtain ⟨k, Lk, es, hk, rfl, HWQ0, HSM0, HR, HD⟩ := hrel
    by_cases hlt : k < N
    · have hlt' : (k : Int) < n := by omega
      have hk0 : ¬ (k : Int) < 0 := by omega
      have hk40 : ¬ (k : Int) = 40 := by omega
      obtain ⟨bb, off, r, rfl, hbb, hrk, hcl1⟩ := CELL.out k hlt
      have hbw : Below w.heap.size w wr := by
        obtain ⟨ob, h⟩ := HWQ0.out
        exact h.ws.bel
      have hcl := (hbw.cell (p := ⟨bb, off + k, none⟩) hbb).trans hcl1
      have hbl : bb < wr.heap.size := Nat.lt_of_lt_of_le hbb hbw.size
      have NM := Lib.hid (NAME.out k r hrk wr hbw)
      have hjj := HR.out
      rw [namesR_drop hlt hrk, show N - k = (N - (k + 1)) + 1 by omega] at hjj
      have HJJ := Lib.hid hjj
      have HG := Lib.hid (rowN_good r)
      obtain ⟨nm, hnm⟩ : ∃ nm, nm = rowN r := ⟨_, rfl⟩
      rw [← hnm] at NM HJJ HG
      have HPOS := Lib.hid (wrS_pos nm es Lk.length)
      obtain ⟨KN, hKN⟩ : ∃ KN, KN = keyOf nm := ⟨_, rfl⟩
      rw [← hKN] at NM
      have HKN := Lib.hid hKN
      clear hbb hcl1 hbw hjj hrk hnm hKN HR
      go_wp2_with fail
      refine NM.out.mono ?_
      rintro e w2 ⟨rfl, hb2⟩
      have HWQ2 : Hid (∃ ob, WSq w w.heap.size b gs ob Lk es w2) := Lib.hid (by
        obtain ⟨ob, h⟩ := HWQ0.out
        exact ⟨ob, h.below hb2⟩)
      have HSM2 : Hid (SM w2 gs (esV es)) := Lib.hid (HSM0.out.below hb2)
      clear hb2 NM HWQ0 HSM0
      have hop : ∃ A c m, Cs w2 b [.slice A Lk.length c, .map m] := by
        obtain ⟨ob, h⟩ := HWQ2.out
        obtain ⟨A, c, m, -, h2, -⟩ := h.ws.open
        exact ⟨A, c, m, h2⟩
      obtain ⟨A2, c2, m2, hcs2⟩ := hop
      have c0 := hcs2.get 0 _
      have q0 := hcs2.lt
      clear hcs2
      have hat4 : Lk.length ≤ 4000 := by have := HJJ.out.2.1; omega
      obtain ⟨at_, hat⟩ : ∃ a, a = Lk.length := ⟨_, rfl⟩
      rw [← hat] at c0 hat4
      have HAT := Lib.hid hat
      clear hat
      go_wp2_with fail
      go_loopw [12, 13] (fun vw vr wq => ∃ (rest : NameL) (dn : List UInt8) (es' : List (ByteArray × Nat)), vw = .string (mkBA dn) ∧ vr = .string (keyOf rest) ∧ Hid (InJ (wrS es Lk.length nm) Lk.length rest dn es') ∧ Hid (∃ ob, WSq w w.heap.size b gs ob Lk es wq) ∧ Hid (SM wq gs (esV es')) ∧ Hid (∀ e ∈ es', e.2 < 16384)) (fun _ vr _ => match vr with | .string s => s.size | _ => 0)
      case atStart => exact ⟨nm, [], es, rfl, by rw [HKN.out], Lib.hid (InJ.start es Lk.length nm HG.out), HWQ2, HSM2, Lib.hid HJJ.out.2.2.1⟩
      case round =>
        obtain ⟨rest, dn, es', rfl, rfl, HIN, HWQ, HSM, HSML⟩ := hrel
        clear c0 q0 HWQ2 HSM2
        obtain ⟨S, hS⟩ : ∃ S, S = keyOf rest := ⟨_, rfl⟩
        have nS : S.data.toList = wire rest := by rw [hS, keyOf_list]
        have sS : S.size = (wire rest).length := by rw [hS, keyOf_size]
        obtain ⟨D, hD⟩ : ∃ D, D = mkBA dn := ⟨_, rfl⟩
        have sD : D.size = dn.length := by rw [hD, mkBA_size]
        rw [← hS, ← hD]
        cases rest with
        | cons x ls =>
          obtain ⟨q, hq⟩ : ∃ q, q = x.length := ⟨_, rfl⟩
          have hx := okL_len (HIN.out.2.1 x (by simp))
          rw [← hq] at hx
          have h84 := HIN.out.2.2
          have hwl : (wire (x :: ls)).length = q + 1 + (wire ls).length := by rw [wire_cons, hq]; simp; omega
          have hE1 := str_empty S (by omega)
          have hE2 := str_empty' S (by omega)
          have h0S : 0 < S.size := by omega
          have h0S' : (0 : Int) < S.size := by omega
          have hx0 : (S[0]'h0S).toNat = q := by
            have : S.data.toList[0]? = some (S[0]'h0S) := get_q S 0 h0S
            rw [nS, wire_cons] at this
            simp at this
            rw [← this, UInt8.toNat_ofNat_of_lt' (by have : UInt8.size = 256 := rfl; omega), hq]
          have hlk := HSM.out.lookup (P := Try.prog) (t := 31) (k := 23) (e := 3) (by kernel_rfl) (by kernel_rfl) (z := .int .i64 0) (by kernel_rfl) S
          rw [esV_has, esV_get] at hlk
          have hD84 : D.size ≤ 84 := by omega
          have hS84 : S.size ≤ 84 := by omega
          cases hlt2 : lk es' S with
          | some tq =>
            try rw [hlt2] at hlk
            simp only [Option.map_some, Option.getD_some, Option.isSome_some] at hlk
            have htq : tq < 16384 := by
              obtain ⟨t, ht⟩ := lk_mem hlt2
              exact HSML.out _ ht
            obtain ⟨t1, p1, p2, hpf⟩ := ptr_facts tq (by omega)
            have hpb := hpf.2.2.2.2.2.2
            have HPF := Lib.hid hpf
            clear hpf
            obtain ⟨E, hE⟩ : ∃ E, E = mkBA (ptrB tq) := ⟨_, rfl⟩
            have sE : E.size ≤ 2 := by rw [hE, mkBA_size]; simp [ptrB]
            have hcv := run_string_of (P := Try.prog) (wr.alloc (.cells #[.int .u8 ((p1 : Int) % 256), .int .u8 ((p2 : Int) % 256)] 5)) 30 9 5 _ (some ⟨wr.heap.size, 0, none⟩) 2 (ptrB tq) Try.underlying30 Try.underlying5 Try.underlying9 (by rw [hpb]; exact Sl.fresh wr #[.int .u8 ((p1 : Int) % 256), .int .u8 ((p2 : Int) % 256)] 5 2 _ rfl rfl) (fun h => by cases h) 2
            rw [show ByteArray.mk (ptrB tq).toArray = E from hE.symm] at hcv
            have hkn := HIN.out.known (by rw [← hS]; exact hlt2)
            have HDD : Hid (ByteArray.mk (wrS es Lk.length nm).1.toArray = D ++ E) := Lib.hid (by rw [hkn, hD, hE, mkBA_app]; rfl)
            have HRE : Hid (es' = (wrS es Lk.length nm).2) := Lib.hid (by rw [hkn])
            have HWQI : Hid (∃ ob, WSq w w.heap.size b gs ob Lk es (wr.alloc (.cells #[.int .u8 ((p1 : Int) % 256), .int .u8 ((p2 : Int) % 256)] 5))) := Lib.hid (by
              obtain ⟨ob, h⟩ := HWQ.out
              exact ⟨ob, h.below ((Below.refl wr.heap.size wr).alloc (Nat.le_refl _) _)⟩)
            have HSMI : Hid (SM (wr.alloc (.cells #[.int .u8 ((p1 : Int) % 256), .int .u8 ((p2 : Int) % 256)] 5)) gs (esV es')) := Lib.hid (HSM.out.below ((Below.refl wr.heap.size wr).alloc (Nat.le_refl _) _))
            have g2 : ¬ 9223372036854775807 < D.size + E.size := by omega
            clear hkn hE hpb hS nS sS hD sD hwl hlt2 hq hx h84 hx0 HWQ HSM HIN
            obtain ⟨z1, z2, z3, -, z5, z6, -⟩ := HPF.out
            go_upto_region 23 with fail
            clear z1 z2 z3 z5 z6 hcv HPF hlk
            obtain ⟨wI, hwI⟩ : ∃ wI, wI = (wr.alloc (.cells #[.int .u8 ((p1 : Int) % 256), .int .u8 ((p2 : Int) % 256)] 5)) := ⟨_, rfl⟩
            rw [← hwI] at HWQI HSMI
            rw [← hwI]
            clear hwI
            obtain ⟨DD, hDDe⟩ : ∃ DD, DD = D ++ E := ⟨_, rfl⟩
            rw [← hDDe] at HDD
            rw [← hDDe]
            clear hDDe
            go_wp2_with fail
            obtain ⟨ob2, hw2⟩ := HWQI.out
            have HOK := HKN.out
            subst HOK
            refine (name_wsq wI w w.heap.size b gs ob2 Lk es nm HG.out.1 (by have := HG.out.2.1; omega) HG.out.2.2 hw2 (by have := HG.out.2.1; have := HJJ.out.2.1; omega) HJJ.out.2.2.1).mono ?_
            rintro e w3 ⟨rfl, hw3⟩
            have HSM3 : Hid (SM w3 gs (esV (wrS es Lk.length nm).2)) := Lib.hid (by rw [← HRE.out]; exact HSMI.out.block (hw3.kept.trans hw2.kept.symm))
            have HW3 := Lib.hid hw3
            clear hw3 hw2 HWQI HSMI
            obtain ⟨A3, c3, m3, hob3, hcs3, hnb3⟩ := HW3.out.ws.open
            obtain ⟨RW, hRW⟩ : ∃ RW, RW = (wrS es Lk.length nm).1 := ⟨_, rfl⟩
            rw [← hRW] at hob3 hcs3 hnb3
            have hlen3 : (Lk ++ RW).length = Lk.length + RW.length := List.length_append
            have hRW1 : 1 ≤ RW.length := by have h := HPOS.out; rw [← hRW] at h; exact h
            obtain ⟨g3, rfl⟩ : ∃ g, A3 = some ⟨g, 0, none⟩ := by
              obtain ⟨A2, c2, e, -, -, h⟩ := hob3.slice3
              injection e with e1 e2 e3
              subst e1
              rcases h with ⟨-, h0, -⟩ | ⟨g, h0, -⟩
              · omega
              · exact ⟨g, h0⟩
            have hcap3 : (Lk ++ RW).length ≤ c3 := by
              obtain ⟨A2, c2, e, h, -, -⟩ := hob3.slice
              injection e with e1 e2 e3
              subst e3
              exact h
            have c0 := hcs3.get 0 _
            have q0 := hcs3.lt
            have hsl3 := sl_drop hob3.sl hlen3
            obtain ⟨LT, hLT⟩ : ∃ LT, LT = RW.length := ⟨_, rfl⟩
            obtain ⟨NT, hNT⟩ : ∃ NT, NT = (Lk ++ RW).length := ⟨_, rfl⟩
            rw [← hNT] at c0 hcap3
            rw [← hLT, ← HAT.out] at hsl3
            have hcv := run_string_of (P := Try.prog) w3 30 9 5 _ (some ⟨g3, at_, none⟩) LT RW Try.underlying30 Try.underlying5 Try.underlying9 hsl3 (fun h => by cases h) (c3 - at_)
            rw [show ByteArray.mk RW.toArray = DD from by rw [hRW]; exact HDD.out] at hcv
            have hDD : (DD.toList == DD.toList) = true := str_same _ _ rfl
            have hNA : NT = at_ + LT := by rw [hNT, hlen3, HAT.out, hLT]
            have b1 : (at_ : Int) ≤ NT := by omega
            have b1' : ¬ (NT : Int) < at_ := by omega
            have b3 : (NT : Int) ≤ c3 := by omega
            have b4 : NT - at_ = LT := by omega
            have b5 : 0 < c3 - at_ := by omega
            clear hob3 hcs3 hnb3 hsl3 hRW hlen3 hRW1 hNT hLT hNA
            go_wp2_with fail
            go_roundw
            case rel => exact ⟨k + 1, _, _, by omega, by go_num, Lib.hid ⟨_, HW3.out⟩, HSM3, Lib.hid (HJJ.out.next HG.out), Lib.hid (by have := HD.out; rw [List.length_append]; omega)⟩
            case measure => simp [intOf]; omega
          | none =>
            try rw [hlt2] at hlk
            simp only [Option.map_none, Option.getD_none, Option.isSome_none] at hlk
            obtain ⟨T, hT⟩ : ∃ T, T = S.extract 0 (1 + q) := ⟨_, rfl⟩
            have nT : T.data.toList = UInt8.ofNat q :: x := by
              rw [hT]
              simp [List.extract_eq_take_drop]
              rw [nS, wire_cons, ← hq]
              rw [show 1 + q = q + 1 by omega, List.cons_append, List.take_succ_cons, hq, List.take_left]
            have hX : S.extract (1 + q) S.size = keyOf ls := by
              apply ByteArray.ext; apply Array.ext'
              simp [List.extract_eq_take_drop]
              rw [nS, wire_cons, ← hq]
              rw [show 1 + q = q + 1 by omega, List.cons_append, List.drop_succ_cons, hq, List.drop_left]
              rw [List.take_of_length_le (by rw [sS, hwl]; omega)]
              simp [keyOf]
            have sT : T.size = 1 + q := by
              have := congrArg List.length nT
              simp [← hq] at this; omega
            have HNX := Lib.hid (HIN.out.next (by rw [← hS]; exact hlt2))
            rw [← hS, ← hq] at HNX
            have HDT : Hid (D ++ T = mkBA (dn ++ (UInt8.ofNat q :: x))) := Lib.hid (by rw [← mkBA_app, hD, mkBA_of T _ nT])
            have HK2 := Lib.hid hX
            have hK2s : Hid ((keyOf ls).size < S.size) := Lib.hid (by rw [keyOf_size]; omega)
            have hq1 : (0 : Int) ≤ 1 + (q : Int) := by omega
            have hq2 : (1 : Int) + q ≤ S.size := by omega
            have hT' := hT.symm
            have hTs : T.size ≤ 64 := by omega
            have g1 : ¬ 9223372036854775807 < D.size + T.size := by omega
            have HSD := Lib.hid sD
            obtain ⟨dl, hdl⟩ : ∃ dl, D.size = dl := ⟨_, rfl⟩
            have hnk : smHas (esV es') S = false := by rw [esV_has, hlt2]; rfl
            have HNK := Lib.hid hnk
            clear hX hT nT sT hS nS sS hD sD hwl hlt2 hq hx h84 hnk hdl
            obtain ⟨a2, ha2⟩ : ∃ a2 : Nat, (at_ : Int) + D.size = a2 := ⟨at_ + D.size, by omega⟩
            have ha2l : a2 ≤ 4200 := by omega
            have HA2 : Hid (a2 = Lk.length + dn.length) := Lib.hid (by have := HAT.out; have := HSD.out; omega)
            go_wp2_with (go_loud (refine wpList_update_sm _ rfl _ _ _ _ rfl 23 3 (by kernel_rfl) (by kernel_rfl) gs (esV es') rfl HSM.out S (.int .i64 (a2 : Nat)) rfl rfl HNK.out ?_))
            intro w5 hM5 hg5
            have HSM5 : Hid (SM w5 gs (esV (es' ++ [(S, Lk.length + dn.length)]))) := Lib.hid (by rw [esV_snoc, ← HA2.out]; exact hM5)
            have HWQ5 : Hid (∃ ob, WSq w w.heap.size b gs ob Lk es w5) := Lib.hid (by
              obtain ⟨ob, h⟩ := HWQ.out
              exact h.swap HB3.out hg5)
            have HSML5 : Hid (∀ e ∈ es' ++ [(S, Lk.length + dn.length)], e.2 < 16384) := Lib.hid (fun e he => by
              rcases List.mem_append.1 he with he | he
              · exact HSML.out e he
              · simp at he; subst he; have := HA2.out; show Lk.length + dn.length < 16384; omega)
            clear hM5 hg5 HWQ HSM hlk
            go_wp2_with fail
            go_roundw
            case rel => exact ⟨ls, _, _, by rw [HDT.out], by rw [HK2.out], HNX, HWQ5, HSM5, HSML5⟩
            case measure =>
              rw [HK2.out]
              exact hK2s.out
        | nil =>
          have hS0 : S = ⟨#[]⟩ := by rw [hS]; rfl
          subst hS0
          have h84 := HIN.out.2.2
          have hdn := HIN.out.done
          have sD84 : D.size ≤ 84 := by omega
          obtain ⟨Z0, hZ0⟩ : ∃ Z0 : ByteArray, Z0 = ⟨#[0]⟩ := ⟨_, rfl⟩
          have HDD : Hid (ByteArray.mk (wrS es Lk.length nm).1.toArray = D ++ ⟨#[0]⟩) := Lib.hid (by rw [hdn, hD, show (⟨#[0]⟩ : ByteArray) = mkBA [0] from rfl, mkBA_app]; rfl)
          have HRE : Hid (es' = (wrS es Lk.length nm).2) := Lib.hid (by rw [hdn])
          have HWQI := HWQ
          have HSMI := HSM
          have g2 : ¬ 9223372036854775807 < D.size + 1 := by omega
          clear hdn hS nS sS hD sD h84 HWQ HSM HIN hZ0
          go_upto_region 23 with fail
          obtain ⟨wI, hwI⟩ : ∃ wI, wI = wr := ⟨_, rfl⟩
          rw [← hwI] at HWQI HSMI
          rw [← hwI]
          clear hwI
          obtain ⟨DD, hDDe⟩ : ∃ DD, DD = D ++ ⟨#[0]⟩ := ⟨_, rfl⟩
          rw [← hDDe] at HDD
          rw [← hDDe]
          clear hDDe
          go_wp2_with fail
          obtain ⟨ob2, hw2⟩ := HWQI.out
          have HOK := HKN.out
          subst HOK
          refine (name_wsq wI w w.heap.size b gs ob2 Lk es nm HG.out.1 (by have := HG.out.2.1; omega) HG.out.2.2 hw2 (by have := HG.out.2.1; have := HJJ.out.2.1; omega) HJJ.out.2.2.1).mono ?_
          rintro e w3 ⟨rfl, hw3⟩
          have HSM3 : Hid (SM w3 gs (esV (wrS es Lk.length nm).2)) := Lib.hid (by rw [← HRE.out]; exact HSMI.out.block (hw3.kept.trans hw2.kept.symm))
          have HW3 := Lib.hid hw3
          clear hw3 hw2 HWQI HSMI
          obtain ⟨A3, c3, m3, hob3, hcs3, hnb3⟩ := HW3.out.ws.open
          obtain ⟨RW, hRW⟩ : ∃ RW, RW = (wrS es Lk.length nm).1 := ⟨_, rfl⟩
          rw [← hRW] at hob3 hcs3 hnb3
          have hlen3 : (Lk ++ RW).length = Lk.length + RW.length := List.length_append
          have hRW1 : 1 ≤ RW.length := by have h := HPOS.out; rw [← hRW] at h; exact h
          obtain ⟨g3, rfl⟩ : ∃ g, A3 = some ⟨g, 0, none⟩ := by
            obtain ⟨A2, c2, e, -, -, h⟩ := hob3.slice3
            injection e with e1 e2 e3
            subst e1
            rcases h with ⟨-, h0, -⟩ | ⟨g, h0, -⟩
            · omega
            · exact ⟨g, h0⟩
          have hcap3 : (Lk ++ RW).length ≤ c3 := by
            obtain ⟨A2, c2, e, h, -, -⟩ := hob3.slice
            injection e with e1 e2 e3
            subst e3
            exact h
          have c0 := hcs3.get 0 _
          have q0 := hcs3.lt
          have hsl3 := sl_drop hob3.sl hlen3
          obtain ⟨LT, hLT⟩ : ∃ LT, LT = RW.length := ⟨_, rfl⟩
          obtain ⟨NT, hNT⟩ : ∃ NT, NT = (Lk ++ RW).length := ⟨_, rfl⟩
          rw [← hNT] at c0 hcap3
          rw [← hLT, ← HAT.out] at hsl3
          have hcv := run_string_of (P := Try.prog) w3 30 9 5 _ (some ⟨g3, at_, none⟩) LT RW Try.underlying30 Try.underlying5 Try.underlying9 hsl3 (fun h => by cases h) (c3 - at_)
          rw [show ByteArray.mk RW.toArray = DD from by rw [hRW]; exact HDD.out] at hcv
          have hDD : (DD.toList == DD.toList) = true := str_same _ _ rfl
          have hNA : NT = at_ + LT := by rw [hNT, hlen3, HAT.out, hLT]
          have b1 : (at_ : Int) ≤ NT := by omega
          have b1' : ¬ (NT : Int) < at_ := by omega
          have b3 : (NT : Int) ≤ c3 := by omega
          have b4 : NT - at_ = LT := by omega
          have b5 : 0 < c3 - at_ := by omega
          clear hob3 hcs3 hnb3 hsl3 hRW hlen3 hRW1 hNT hLT hNA
          go_wp2_with fail
          go_roundw
          case rel => exact ⟨k + 1, _, _, by omega, by go_num, Lib.hid ⟨_, HW3.out⟩, HSM3, Lib.hid (HJJ.out.next HG.out), Lib.hid (by have := HD.out; rw [List.length_append]; omega)⟩
          case measure => simp [intOf]; omega
    · have hre := HR.out
      have hkN : k = N := by omega
      subst hkN
      have hop : ∃ A c m, Cs wr b [.slice A Lk.length c, .map m] := by
        obtain ⟨ob, h⟩ := HWQ0.out
        obtain ⟨A, c, m, -, h2, -⟩ := h.ws.open
        exact ⟨A, c, m, h2⟩
      obtain ⟨A2, c2, m2, hcs2⟩ := hop
      have c0 := hcs2.get 0 _
      have q0 := hcs2.lt
      have hbw : Below w.heap.size w wr := by
        obtain ⟨ob, h⟩ := HWQ0.out
        exact h.ws.bel
      have HBW := Lib.hid hbw
      obtain ⟨NT, hNT⟩ : ∃ NT, NT = Lk.length := ⟨_, rfl⟩
      rw [← hNT] at c0 HD
      have hd9 : (d : Int) ≤ NT := by have := HD.out; omega
      have hN2 := HN.out
      clear hcs2 hre hbw hNT HR
      by_cases hkn : k < n
      · have hk4 : k = 40 := by omega
        have hlt' : (k : Int) < n := by omega
        have hfetch : ∃ (bb off : Nat) (r : RowT), A = some ⟨bb, off, none⟩ ∧ bb < w.heap.size ∧ w.cell? ⟨bb, off + k, none⟩ = some (.slice r.1 r.2.1 r.2.2.1) := CELLB.out k hkn
        obtain ⟨bb, off, r, rfl, hbb, hcl1⟩ := hfetch
        have hcl := (HBW.out.cell (p := ⟨bb, off + k, none⟩) hbb).trans hcl1
        have hbl : bb < wr.heap.size := Nat.lt_of_lt_of_le hbb HBW.out.size
        subst hk4
        clear hcl1 hbb hN2
        go_wp2_with fail
        go_ret
        exact ⟨rfl, HBW.out⟩
      · have hkn' : k = n := by omega
        subst hkn'
        have hlt' : ¬ (k : Int) < k := by omega
        clear hN2
        go_wp2_with fail
        go_ret
        exact ⟨rfl, HBW.out⟩
end Go.Proofs.Ytliofipccicnfaa
