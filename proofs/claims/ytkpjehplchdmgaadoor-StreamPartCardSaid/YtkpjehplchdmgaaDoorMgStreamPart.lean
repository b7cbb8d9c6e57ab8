/- Texts that walks stand on, one behind the other. -/
import Derived.Test.YtkpjehplchdmgaaDoorMgSD
import Derived.Outline
import Derived.Deep.DeepCutAuto
import Derived.Deep.CutBlock
import Derived.Test.YtkpjehplchdmgaaDoorViewA
import Derived.Test.YtkpjehplchdmgaaDoorAs
import Derived.Test.YtkpjehplchdmgaaDoorLaid
import Derived.Test.YtkpjehplchdmgaaDoorMgSA
import Derived.Test.YtkpjehplchdmgaaDoorMgSB
namespace Go.Proofs.YtkpjehplchdmgaaDoor
open Go.RowKit
set_option linter.unusedVariables false
set_option linter.unusedSimpArgs false
set_option maxRecDepth 20000
attribute [local simp] putsF isV wordOf Deps Region.binds Region.wanted Act.put wantedX isB
set_option maxHeartbeats 1600000 in
theorem ser9_gen (r0 : ByteArray) (r1 r2 : Int) (r3 s1 s2 : ByteArray) (n0 n1 n2 n3 n4 : Int) (q : Bool) (w : World)
    (OF : ∀ w, Calls Tryd.prog 47 #[.agg #[.string r0, .int .u16 r1, .int .u32 r2, .string r3]] w fun e w' => e = .returned (.tuple #[.agg #[.string s1, .string s2, .int .u32 n0, .int .u32 n1, .int .u32 n2, .int .u32 n3, .int .u32 n4], .bool q]) ∧ Below w.heap.size w w') :
    Calls Tryd.prog 33 #[.agg #[.string r0, .int .u16 r1, .int .u32 r2, .string r3]] w fun e w' => e = .returned (.int .u32 n0) ∧ Below w.heap.size w w' := by
  have OF : Hid (∀ w, Calls Tryd.prog 47 #[.agg #[.string r0, .int .u16 r1, .int .u32 r2, .string r3]] w fun e w' => (∃ EX, EX = Value.agg #[.string s1, .string s2, .int .u32 n0, .int .u32 n1, .int .u32 n2, .int .u32 n3, .int .u32 n4] ∧ e = .returned (.tuple #[EX, .bool q])) ∧ Below w.heap.size w w') :=
    Lib.hid (fun w => (OF w).mono (by rintro e w' ⟨rfl, hb⟩; exact ⟨⟨_, rfl, rfl⟩, hb⟩))
  have hb := (Below.refl w.heap.size w).alloc (Nat.le_refl _) (.cells #[.string r0, .int .u16 r1, .int .u32 r2, .string r3] 32)
  have HB := Lib.hid hb
  clear hb
  go_enter Tryd.func33, Tryd.ntmps33
  go_wp2_with fail
  refine (OF.out _).mono ?_
  rintro e w2 ⟨⟨EX, hEX, rfl⟩, hb2⟩
  have HEX := Lib.hid hEX
  clear hEX
  have hZ := Cs.new w2 #[.string ⟨#[]⟩, .string ⟨#[]⟩, .int .u32 0, .int .u32 0, .int .u32 0, .int .u32 0, .int .u32 0] 63 [.string ⟨#[]⟩, .string ⟨#[]⟩, .int .u32 0, .int .u32 0, .int .u32 0, .int .u32 0, .int .u32 0]
  have HTH := Lib.hid (hZ.there 7 rfl)
  have hM := hZ.mid [.string s1, .string s2, .int .u32 n0, .int .u32 n1, .int .u32 n2, .int .u32 n3, .int .u32 n4] rfl
  have hbZ := below_setCells' (B := w.heap.size) (g := w2.heap.size) (Nat.le_trans HB.out.size hb2.size) [.string s1, .string s2, .int .u32 n0, .int .u32 n1, .int .u32 n2, .int .u32 n3, .int .u32 n4] 0 ((below_trans HB.out HB.out.size hb2).alloc (Nat.le_trans HB.out.size hb2.size) (.cells #[.string ⟨#[]⟩, .string ⟨#[]⟩, .int .u32 0, .int .u32 0, .int .u32 0, .int .u32 0, .int .u32 0] 63))
  have k2 := hM.get 2 _
  have HBZ := Lib.hid hbZ
  have HK2 := Lib.hid k2
  clear hb2 hZ hM hbZ k2
  go_upto_region 2 with (first | refine wpList_store_mid rfl 63 _ _ rfl w2.heap.size 0 #[.string s1, .string s2, .int .u32 n0, .int .u32 n1, .int .u32 n2, .int .u32 n3, .int .u32 n4] rfl HEX.out HTH.out (by kernel_rfl) (by simp [Value.oneCell']) ?_)
  have k2 := HK2.out
  generalize (w2.alloc (.cells #[.string ⟨#[]⟩, .string ⟨#[]⟩, .int .u32 0, .int .u32 0, .int .u32 0, .int .u32 0, .int .u32 0] 63)).setCells w2.heap.size 0 [.string s1, .string s2, .int .u32 n0, .int .u32 n1, .int .u32 n2, .int .u32 n3, .int .u32 n4] = w5 at *
  go_wp2_with fail
  go_ret
  exact ⟨rfl, HBZ.out⟩
theorem ser9_any {sf : RecT → Nat} (h : SerF sf) (r : RecT) (hr : soaB r = true) (hd : r.2.2.2.size ≤ 140737488355328) (w : World) : Calls Tryd.prog 33 #[recV r] w fun e w' => e = .returned (.int .u32 (sf r : Nat)) ∧ Below w.heap.size w w' := by
  have hsf := h r
  obtain ⟨r0, r1, r2, r3⟩ := r
  unfold soaB at hr
  simp only [beq_iff_eq] at hr
  subst hr
  unfold recV
  simp only at hd hsf ⊢
  by_cases hx : ∃ a b t, IsSoa r3.data.toList a b t
  · obtain ⟨a, b, t, hx⟩ := hx
    rw [hsf.1 a b t hx]
    refine ser9_gen r0 6 r2 r3 ⟨a.toArray⟩ ⟨b.toArray⟩ (n32 ⟨t.toArray⟩ 0) (n32 ⟨t.toArray⟩ 4) (n32 ⟨t.toArray⟩ 8) (n32 ⟨t.toArray⟩ 12) (n32 ⟨t.toArray⟩ 16) true w (fun w => (sof_soa r0 r3 r2 w hd).mono ?_)
    rintro e w' ⟨hb, ⟨a', b', t', hs, rfl⟩ | ⟨hno, -⟩⟩
    · obtain ⟨rfl, rfl, rfl⟩ := hx.one hs
      exact ⟨rfl, hb⟩
    · exact absurd hx (hno a b t)
  · rw [hsf.2 (fun a b t h' => hx ⟨a, b, t, h'⟩)]
    refine ser9_gen r0 6 r2 r3 ⟨#[]⟩ ⟨#[]⟩ 0 0 0 0 0 false w (fun w => (sof_soa r0 r3 r2 w hd).mono ?_)
    rintro e w' ⟨hb, ⟨a', b', t', hs, rfl⟩ | ⟨hno, rfl⟩⟩
    · exact absurd ⟨a', b', t', hs⟩ hx
    · exact ⟨rfl, hb⟩
/-- An error, and how many deltas; -1: all; -2: the same. -/
def partN : Nat ⊕ Option (Option (List DTrip)) → Int × Int
  | .inl e => (e, 0)
  | .inr none => (0, -2)
  | .inr (some none) => (0, -1)
  | .inr (some (some ts)) => (0, ts.length)
/-- Where the statement's reckoning stands. -/
def InvP (sf : RecT → Nat) (fr : Nat) (rs : List RecT) (n k cnt fr2 : Nat) (tr : RecT) : Prop :=
  (k ≤ n - 1 ∧ ∃ (done : List DTrip) (fu : Nat), done.length = cnt ∧ n ≤ k + fu ∧ deltasG sf rs n fr 1 = preD done (deltasG sf rs fu fr2 k) ∧ (∀ x, done.getLast? = some x → rAt rs x.2.1 = tr)) ∨ (k = n ∧ deltasR sf fr rs = .inl 4)
theorem meas1 {p n : Nat} (h : p < n) : n - (p + 1) < n - p := by omega
theorem meas2 {u k n : Nat} (h : k + 1 ≤ u) (h2 : k < n) : n - u < n - k := by omega
theorem lt_facts9 (p n : Nat) (h : p < n) (hn : n ≤ 1000) : (p : Int) < n ∧ ((p : Int) == n) = false ∧ p ≤ 1001 := by
  refine ⟨by omega, by rw [beq_eq_false_iff_ne]; omega, by omega⟩
theorem InvP.err {sf : RecT → Nat} {fr : Nat} {rs : List RecT} {n k cnt fr2 e : Nat} {tr : RecT} (h : InvP sf fr rs n k cnt fr2 tr) (hl : rs.length = n) (hk : k < n - 1) (he : deltaR sf fr2 rs k = .inl e) : deltasR sf fr rs = .inl e := by
  rcases h with ⟨-, done, fu, -, hfu, hg, -⟩ | ⟨h, -⟩
  · unfold deltasR
    rw [hl, hg, deltasG_err (by rw [hl]; exact hk) (by omega) he]
    rfl
  · omega
theorem InvP.next {sf : RecT → Nat} {fr : Nat} {rs : List RecT} {n k cnt fr2 T U : Nat} {tr t : RecT} (h : InvP sf fr rs n k cnt fr2 tr) (hl : rs.length = n) (hk : k < n - 1) (hd : deltaR sf fr2 rs k = if n - 1 ≤ T then .inl 4 else .inr (T, min U (n - 1)))
    (ht : rs[T]? = some t) (hU : U = nextS rs (T + 1)) (hT1 : k + 1 ≤ T) (hT : T < n) (h0 : ∃ r, rs[0]? = some r ∧ soaB r = true) : U ≤ n ∧ T + 1 ≤ U ∧ InvP sf fr rs n U (cnt + 1) (sf t) t := by
  have hUn : U ≤ n := by rw [hU]; have := nextS_le rs (T + 1) (by omega); omega
  have hU1 : T + 1 ≤ U := by rw [hU]; exact nextS_ge _ _
  refine ⟨hUn, hU1, ?_⟩
  by_cases hTL : n - 1 ≤ T
  · rw [if_pos hTL] at hd
    exact .inr ⟨by omega, h.err hl hk hd⟩
  · rw [if_neg hTL] at hd
    rcases h with ⟨-, done, fu, hcn, hfu, hg, -⟩ | ⟨h, -⟩
    · have hnx := deltasG_next (sf := sf) (k := fu - 1) done (by rw [hl]; exact hk) hd
      rw [show fu - 1 + 1 = fu by omega, rAt_of ht] at hnx
      by_cases hUL : U ≤ n - 1
      · rw [Nat.min_eq_left hUL] at hnx
        refine .inl ⟨hUL, done ++ [(k, T, U)], fu - 1, by simp [hcn], by omega, by rw [hg, hnx], fun x hx => ?_⟩
        rw [List.getLast?_append, List.getLast?_singleton] at hx
        simp only [Option.or] at hx
        injection hx with hx
        rw [← hx]
        exact rAt_of ht
      · have hUe : U = n := by omega
        refine .inr ⟨hUe, ?_⟩
        rw [Nat.min_eq_right (by omega)] at hnx
        rw [deltasG_stop (sf := sf) (rs := rs) (k := fu - 1) (fr := sf t) (i := n - 1) (by rw [hl]; omega)] at hnx
        unfold deltasR
        rw [hl, hg, hnx]
        simp only [preD, List.append_nil]
        rw [if_neg]
        have hlast : soaB (rAt rs (n - 1)) = false := by
          cases hs : soaB (rAt rs (n - 1)) with
          | false => rfl
          | true =>
            exfalso
            have hge : rs[n - 1]? = some (rAt rs (n - 1)) := by
              have := List.getElem?_eq_getElem (l := rs) (i := n - 1) (by omega)
              rw [rAt_of this, this]
            have hst : ∀ j, T + 1 + j ≤ n - 1 → nextS rs (T + 1) ≤ n - 1 := by
              intro j hj
              have key : ∀ d i, i + d = n - 1 → nextS rs i ≤ n - 1 := by
                intro d
                induction d with
                | zero => intro i hi; rw [show i = n - 1 by omega, nextS_yes hge hs]; exact Nat.le_refl _
                | succ d ih =>
                  intro i hi
                  obtain ⟨y, hy⟩ : ∃ y, rs[i]? = some y := ⟨_, List.getElem?_eq_getElem (by omega)⟩
                  cases hsy : soaB y with
                  | true => rw [nextS_yes hy hsy]; omega
                  | false => rw [nextS_no hy hsy]; exact ih (i + 1) (by omega)
              exact key (n - 1 - (T + 1)) (T + 1) (by omega)
            have := hst 0 (by omega)
            rw [← hU] at this
            omega
        obtain ⟨r0, hr0, hs0⟩ := h0
        unfold endOk
        rw [List.getLast?_append, List.getLast?_singleton]
        simp only [Option.or]
        rw [hl, rAt_of hr0]
        intro hx
        rw [Bool.and_eq_true] at hx
        have h1 := hx.1
        unfold eqB at h1
        simp only [Bool.and_eq_true, beq_iff_eq] at h1
        have h2 : soaB (rAt rs (n - 1)) = soaB r0 := by unfold soaB; rw [h1.2.1]
        rw [hlast, hs0] at h2
        cases h2
    · omega
set_option maxHeartbeats 12800000 in
theorem part9_any (m : RecT → Bool) (sf : RecT → Nat) (o : ByteArray) (fr : Nat) (A : Option Addr) (n c : Nat) (rs : List RecT) (w : World) (h : Recs w A rs) (hl : rs.length = n) (hn : n ≤ 1000) (hc : n ≤ c) (ho : o.size ≤ maxLen) (hz : ∀ r ∈ rs, r.1.size ≤ maxLen)
    (hm : ∀ r ∈ rs, ∀ w, Calls Tryd.prog 34 #[recV r] w fun e w' => e = .returned (.bool (m r)) ∧ Below w.heap.size w w')
    (hs : ∀ r ∈ rs, soaB r = true → ∀ w, Calls Tryd.prog 33 #[recV r] w fun e w' => e = .returned (.int .u32 (sf r : Nat)) ∧ Below w.heap.size w w') :
    Calls Tryd.prog 16 #[.string o, .int .u32 (fr : Nat), .slice A n c] w fun e w' => e = .returned (.tuple #[.int .i64 (partN (partR m sf o fr rs)).1, .int .i64 (partN (partR m sf o fr rs)).2]) ∧ Below w.heap.size w w' := by
  obtain ⟨AR, hAR⟩ : ∃ R : Ending → World → Prop, R = fun e w' => e = .returned (.tuple #[.int .i64 (partN (partR m sf o fr rs)).1, .int .i64 (partN (partR m sf o fr rs)).2]) ∧ Below w.heap.size w w' := ⟨_, rfl⟩
  rw [← hAR]
  have HR : Hid (∀ p q w', partN (partR m sf o fr rs) = (p, q) → Below w.heap.size w w' → AR (.returned (.tuple #[.int .i64 p, .int .i64 q])) w') := Lib.hid (fun p q w' hp hb => by rw [hAR]; refine ⟨?_, hb⟩; rw [hp])
  have AD := Lib.hid (may9_any m o A n c rs w h hl (by omega) ho hz hm)
  have F9 := Lib.hid (fun (wx : World) (hb : Below w.heap.size w wx) => full9_any m o A n c rs wx (h.below hb) hl hn hc ho hz hm)
  have HP : Hid (partR m sf o fr rs = if admR m o rs = true then (if n = 1 then (if sf (rAt rs 0) = fr then .inr none else .inl 5)
    else if fullR m o rs = true then .inr (some none) else (match deltasR sf fr rs with
      | .inl e => .inl e
      | .inr ts => .inr (some (some ts)))) else .inl 4) := Lib.hid (by unfold partR; rw [hl]; rfl)
  have HH := Lib.hid h
  have HL := Lib.hid hl
  have HNN := Lib.hid hn
  have HSS := Lib.hid hs
  clear h hl hs hAR hm hz ho hc
  go_enter Tryd.func16, Tryd.ntmps16
  go_wp2_with fail
  refine AD.out.mono ?_
  rintro e wb ⟨rfl, hbb⟩
  have HBB := Lib.hid hbb
  clear hbb AD
  cases had : admR m o rs with
  | false =>
    have HF := Lib.hid (show partN (partR m sf o fr rs) = (4, 0) by rw [HP.out, had]; rfl)
    clear had
    go_wp2_with fail
    exact HR.out _ _ _ HF.out HBB.out
  | true =>
    have hP2 := HP.out
    rw [had, if_pos rfl] at hP2
    have HP2 := Lib.hid hP2
    have hne : 0 < n := by
      rw [← HL.out]
      match rs, had with
      | _ :: _, _ => simp
    obtain ⟨rf, hr⟩ : ∃ r, rs[0]? = some r := ⟨_, List.getElem?_eq_getElem (by rw [HL.out]; exact hne)⟩
    have hsr : soaB rf = true := by
      match rs, had, hr with
      | a :: t, had, hr =>
        have e : a = rf := by simpa using hr
        unfold admR at had
        rw [Bool.and_eq_true] at had
        rw [← e]; exact had.2
    obtain ⟨bb, off, rfl, hbw, hrg⟩ := HH.out.range hr
    have SE := Lib.hid (HSS.out rf (List.mem_of_getElem? hr) hsr)
    have HR0 := Lib.hid (rAt_of hr)
    have HS0 : Hid (∃ r, rs[0]? = some r ∧ soaB r = true) := Lib.hid ⟨rf, hr, hsr⟩
    have HRF : Hid (∀ wx, Below w.heap.size w wx → wx.rangeAt bb off (recCells rf)) := Lib.hid (fun wx hb j v hv => (hb.cell (p := ⟨bb, off + j, none⟩) hbw).trans (by have := hrg j v hv; simpa using this))
    clear had hP2 hr hsr hbw hrg HP
    by_cases h1 : n = 1
    · subst h1
      have hp3 := HP2.out
      rw [if_pos rfl, HR0.out] at hp3
      obtain ⟨SV, hSV⟩ : ∃ S, S = sf rf := ⟨_, rfl⟩
      rw [← hSV] at SE hp3
      have HPQ := Lib.hid hp3
      clear hSV HR0 HP2 hp3 HS0
      obtain ⟨r0, r1, r2, r3⟩ := rf
      unfold recV at SE
      unfold recCells at HRF
      simp only at SE HRF
      have HRB := Lib.hid (HRF.out wb HBB.out)
      go_wp2_with (first | refine wpList_load_midH rfl 32 _ rfl bb off rfl _ _ HRB.out Tryd.underlying32 rfl (by kernel_rfl) ?_)
      refine (SE.out _).mono ?_
      rintro e wc ⟨rfl, hbc⟩
      have HBW := Lib.hid (below_trans HBB.out HBB.out.size hbc)
      clear hbc SE
      by_cases hsf : SV = fr
      · subst hsf
        have hq : ((SV : Int) == (SV : Int)) = true := by simp
        have hq2 : ((SV : Int) != (SV : Int)) = false := by simp
        have HF := Lib.hid (show partN (partR m sf o SV rs) = (0, -2) by rw [HPQ.out, if_pos rfl]; rfl)
        go_wp2_with fail
        exact HR.out _ _ _ HF.out HBW.out
      · have hq : ((SV : Int) == (fr : Int)) = false := by rw [beq_eq_false_iff_ne]; omega
        have hq2 : ((SV : Int) != (fr : Int)) = true := by simp [bne, hq]
        have HF := Lib.hid (show partN (partR m sf o fr rs) = (5, 0) by rw [HPQ.out, if_neg hsf]; rfl)
        go_wp2_with fail
        exact HR.out _ _ _ HF.out HBW.out
    · have hp3 := HP2.out
      rw [if_neg h1] at hp3
      have HP3 := Lib.hid hp3
      have F9 := Lib.hid (F9.out wb HBB.out)
      have hn1 : ((n : Int) == 1) = false := by rw [beq_eq_false_iff_ne]; omega
      have hn1' : ¬ (n : Int) = 1 := by omega
      have h2 : 2 ≤ n := by omega
      clear hp3 HP2 h1
      go_wp2_with fail
      refine F9.out.mono ?_
      rintro e wc ⟨rfl, hbc⟩
      have HBC := Lib.hid (below_trans HBB.out HBB.out.size hbc)
      clear hbc F9
      cases hf : fullR m o rs with
      | true =>
        have HF := Lib.hid (show partN (partR m sf o fr rs) = (0, -1) by rw [HP3.out, hf, if_pos rfl]; rfl)
        clear hf
        go_wp2_with fail
        exact HR.out _ _ _ HF.out HBC.out
      | false =>
        have hp4 := HP3.out
        rw [hf, if_neg (by simp)] at hp4
        have HP4 := Lib.hid hp4
        clear hf hp4 HP3
        have HE : Hid (∀ er : Nat, deltasR sf fr rs = .inl er → partN (partR m sf o fr rs) = ((er : Int), 0)) := Lib.hid (fun er he => by rw [HP4.out, he]; rfl)
        have HT : Hid (∀ ts, deltasR sf fr rs = .inr ts → partN (partR m sf o fr rs) = (0, (ts.length : Int))) := Lib.hid (fun ts he => by rw [HP4.out, he]; rfl)
        have HR4 : Hid (deltasR sf fr rs = .inl 4 → ∀ w', Below w.heap.size w w' → AR (.returned (.tuple #[.int .i64 4, .int .i64 0])) w') := Lib.hid (fun he w' hb => HR.out _ _ _ (HE.out 4 he) hb)
        have HR5 : Hid (deltasR sf fr rs = .inl 5 → ∀ w', Below w.heap.size w w' → AR (.returned (.tuple #[.int .i64 5, .int .i64 0])) w') := Lib.hid (fun he w' hb => HR.out _ _ _ (HE.out 5 he) hb)
        clear HE HP4 SE
        have hZ := Cs.new wc #[.string ⟨#[]⟩, .int .u16 0, .int .u32 0, .string ⟨#[]⟩] 32 (recCells (⟨#[]⟩, 0, 0, ⟨#[]⟩))
        have hbZ := HBC.out.alloc HBC.out.size (.cells #[.string ⟨#[]⟩, .int .u16 0, .int .u32 0, .string ⟨#[]⟩] 32)
        have HZ0 := Lib.hid (And.intro hZ hbZ)
        have HGT := Lib.hid HBC.out.size
        clear hZ hbZ
        go_wp2_with fail
        obtain ⟨hZ, hbZ⟩ := HZ0.out
        generalize wc.alloc (.cells #[.string ⟨#[]⟩, .int .u16 0, .int .u32 0, .string ⟨#[]⟩] 32) = wz at *
        obtain ⟨gt, hgt⟩ : ∃ g, g = wc.heap.size := ⟨_, rfl⟩
        rw [← hgt] at hZ ⊢
        have HGL : Hid (w.heap.size ≤ gt) := Lib.hid (by rw [hgt]; exact HGT.out)
        have HZ := Lib.hid hZ
        have HBZ := Lib.hid hbZ
        clear hZ hbZ hgt HZ0 HGT
        go_loopw [1, 8, 9] (fun vf va vn wr => ∃ (fr2 k cnt : Nat) (tr : RecT), vf = .int .u32 (fr2 : Nat) ∧ va = .int .i64 (k : Nat) ∧ vn = .int .i64 (cnt : Nat) ∧ 1 ≤ k ∧ k ≤ n ∧ Hid (cnt ≤ k) ∧ Hid (Below w.heap.size w wr) ∧ Hid (Cs wr gt (recCells tr)) ∧ Hid (InvP sf fr rs n k cnt fr2 tr)) (fun _ va _ _ => n - (intOf va).toNat)
        case atStart => exact ⟨fr, 1, 0, (⟨#[]⟩, 0, 0, ⟨#[]⟩), rfl, rfl, rfl, Nat.le_refl _, by omega, Lib.hid (by omega), HBZ, HZ, Lib.hid (.inl ⟨by omega, [], n, rfl, by omega, (preD_nil _).symm, fun x hx => by simp at hx⟩)⟩
        case round =>
          obtain ⟨fr2, k, cnt, tr, rfl, rfl, rfl, hk1, hkn, HCK, HB, HCT, HI⟩ := hrel
          by_cases hlt : k < n - 1
          · have hlt' : (k : Int) < (n : Int) - 1 := by omega
            have hkl : k < n := by omega
            have hkl' : (k : Int) < n := by omega
            obtain ⟨r, hr⟩ : ∃ r, rs[k]? = some r := ⟨_, List.getElem?_eq_getElem (by rw [HL.out]; exact hkl)⟩
            obtain ⟨b3, o3, hA3, hb3, hr3⟩ := HH.out.range hr
            injection hA3 with hA3; injection hA3 with q1 q2; subst q1 q2
            have HRK : Hid (wr.rangeAt bb (off + k * 4) (recCells r)) := Lib.hid (fun j v hv => (HB.out.cell (p := ⟨bb, off + k * 4 + j, none⟩) hb3).trans (hr3 j v hv))
            have HDR : Hid (deltaR sf fr2 rs k = if soaB r = true then (if sf r = fr2 then (if n - 1 ≤ nextS rs (k + 1) then .inl 4 else .inr (nextS rs (k + 1), min (nextS rs (nextS rs (k + 1) + 1)) (n - 1))) else .inl 5) else .inl 4) := Lib.hid (by unfold deltaR; rw [hr]; simp only [HL.out])
            have HER := Lib.hid (fun (e : Nat) (he : deltaR sf fr2 rs k = .inl e) => HI.out.err HL.out hlt he)
            obtain ⟨R1, hR1⟩ : ∃ q, q = r.2.1 := ⟨_, rfl⟩
            have kr : wr.cell? ⟨bb, off + k * 4 + 1, none⟩ = some (.int .u16 R1) := by rw [hR1]; exact HRK.out 1 _ rfl
            have hsy : soaB r = (R1 == 6) := by rw [hR1]; rfl
            have HMEM := Lib.hid (List.mem_of_getElem? hr)
            clear hr hb3 hr3 hR1
            cases es : soaB r with
            | false =>
              have e6 : (R1 == 6) = false := by rw [← hsy]; exact es
              have e6' : (R1 != 6) = true := by simp only [bne, e6]; rfl
              have HF := Lib.hid (HER.out 4 (by rw [HDR.out, es]; rfl))
              clear es hsy
              go_wp2_with fail
              exact HR4.out HF.out _ HB.out
            | true =>
              have e6 : (R1 == 6) = true := by rw [← hsy]; exact es
              have e6' : (R1 != 6) = false := by simp only [bne, e6]; rfl
              have hdr := HDR.out
              rw [es, if_pos rfl] at hdr
              have SE := Lib.hid (HSS.out r HMEM.out es)
              obtain ⟨SV, hSV⟩ : ∃ S, S = sf r := ⟨_, rfl⟩
              rw [← hSV] at SE hdr
              have HD2 := Lib.hid hdr
              clear es hsy hdr HDR hSV HMEM
              obtain ⟨r0, r1, r2, r3⟩ := r
              unfold recV at SE
              unfold recCells at HRK
              simp only at SE HRK
              go_wp2_with (first | refine wpList_load_midH rfl 32 _ rfl bb (off + k * 4) rfl _ _ HRK.out Tryd.underlying32 rfl (by kernel_rfl) ?_)
              refine (SE.out _).mono ?_
              rintro e w5 ⟨rfl, hb5⟩
              have HB5 := Lib.hid (below_trans HB.out HB.out.size hb5)
              have HCT5 := Lib.hid (HCT.out.below hb5)
              clear hb5 SE
              by_cases hsf : SV = fr2
              · subst hsf
                have hq : ((SV : Int) == (SV : Int)) = true := by simp
                have hq2 : ((SV : Int) != (SV : Int)) = false := by simp
                have hdr := HD2.out
                rw [if_pos rfl] at hdr
                have HD3 := Lib.hid hdr
                obtain ⟨hw1, hw2⟩ := wrap_facts9 k (k + 1) rfl (Nat.le_trans hkn (Nat.le_trans hn (by decide)))
                clear hdr HD2 kr
                have HBw5 := HB5
                go_wp2_with fail
                go_loop [8] (fun va => ∃ p : Nat, k + 1 ≤ p ∧ p ≤ n ∧ va = .int .i64 (p : Nat) ∧ Hid (nextS rs (k + 1) = nextS rs p)) (fun va => n - (intOf va).toNat)
                case atStart => exact ⟨k + 1, Nat.le_refl _, hkl, by go_num, Lib.hid rfl⟩
                case round =>
                  obtain ⟨p, hp1, hpn, rfl, HNp⟩ := hrel
                  by_cases hpl : p < n
                  · obtain ⟨hpl', hpe, hpb⟩ := lt_facts9 p n hpl hn
                    obtain ⟨yp, hyp⟩ : ∃ y, rs[p]? = some y := ⟨_, List.getElem?_eq_getElem (by rw [HL.out]; exact hpl)⟩
                    obtain ⟨b4, o4, hA4, hb4, hr4⟩ := HH.out.range hyp
                    injection hA4 with hA4; injection hA4 with q1 q2; subst q1 q2
                    have HRYp : Hid (∀ wx, Below w.heap.size w wx → wx.rangeAt bb (off + p * 4) (recCells yp)) := Lib.hid (fun wx hb j v hv => (hb.cell (p := ⟨bb, off + p * 4 + j, none⟩) hb4).trans (hr4 j v hv))
                    obtain ⟨Yp, hYp⟩ : ∃ q, q = yp.2.1 := ⟨_, rfl⟩
                    have kyp : w5.cell? ⟨bb, off + p * 4 + 1, none⟩ = some (.int .u16 Yp) := by rw [hYp]; exact HRYp.out w5 HBw5.out 1 _ rfl
                    have hsp : soaB yp = (Yp == 6) := by rw [hYp]; rfl
                    have HYp := Lib.hid hyp
                    clear hyp hb4 hr4 hYp
                    obtain ⟨hvp1, hvp2⟩ := wrap_facts9 p (p + 1) rfl hpb
                    cases es : soaB yp with
                    | false =>
                      have e7 : (Yp == 6) = false := by rw [← hsp]; exact es
                      have e7' : (Yp != 6) = true := by simp only [bne, e7]; rfl
                      have HNOp := Lib.hid (nextS_no HYp.out es)
                      clear es hsp
                      go_wp2_with fail
                      go_round
                      case rel => exact ⟨p + 1, Nat.le_succ_of_le hp1, hpl, by go_num, Lib.hid (HNp.out.trans HNOp.out)⟩
                      case measure => simp [intOf]; first | exact meas1 hpl | omega
                    | true =>
                      have e7 : (Yp == 6) = true := by rw [← hsp]; exact es
                      have e7' : (Yp != 6) = false := by simp only [bne, e7]; rfl
                      have HTp := Lib.hid (HNp.out.trans (nextS_yes HYp.out es))
                      have HESp := Lib.hid es
                      clear es hsp
                      have SE2 := Lib.hid (HSS.out yp (List.mem_of_getElem? HYp.out) HESp.out)
                      have hry := HRYp.out w5 HBw5.out
                      obtain ⟨TV9, hTV⟩ : ∃ q, q = sf yp := ⟨_, rfl⟩
                      rw [← hTV] at SE2
                      have HTV0 := Lib.hid hTV
                      clear hTV
                      obtain ⟨t0, t1, t2, t3⟩ := yp
                      have HTV : Hid (TV9 = sf (t0, t1, t2, t3)) := HTV0
                      unfold recV at SE2
                      unfold recCells at hry
                      simp only at SE2 hry
                      have HRYY := Lib.hid hry
                      have HTH := Lib.hid (HCT5.out.there 4 rfl)
                      have hM6 := HCT5.out.mid [.string t0, .int .u16 t1, .int .u32 t2, .string t3] rfl
                      have hb6 := below_setCells' (B := w.heap.size) (g := gt) HGL.out [.string t0, .int .u16 t1, .int .u32 t2, .string t3] 0 HBw5.out
                      have H6 := Lib.hid (And.intro hM6 hb6)
                      clear hM6 hb6 hry HTV0
                      go_upto_region 22 with (first | refine wpList_load_midH rfl 32 _ rfl bb (off + p * 4) rfl _ _ HRYY.out Tryd.underlying32 rfl (by kernel_rfl) ?_ | refine wpList_store_mid rfl 32 _ _ rfl gt 0 #[.string t0, .int .u16 t1, .int .u32 t2, .string t3] rfl rfl HTH.out (by kernel_rfl) (by simp [Value.oneCell']) ?_)
                      obtain ⟨hM6, hb6⟩ := H6.out
                      generalize w5.setCells gt 0 [.string t0, .int .u16 t1, .int .u32 t2, .string t3] = w6 at *
                      have HRX6 := Lib.hid hM6.range
                      have HB6 := Lib.hid hb6
                      have HC6 := Lib.hid hM6
                      clear hM6 hb6 H6 HTH HRYY kyp
                      go_wp2_with (first | refine wpList_load_mid rfl 32 _ rfl gt 0 rfl _ _ HRX6.out Tryd.underlying32 rfl (by kernel_rfl) ?_)
                      refine (SE2.out _).mono ?_
                      rintro e w7 ⟨rfl, hb7⟩
                      have HBw7 := Lib.hid (below_trans HB6.out HB6.out.size hb7)
                      have HCT7 : Hid (Cs w7 gt (recCells (t0, t1, t2, t3))) := Lib.hid (HC6.out.below hb7)
                      obtain ⟨hw3, hw4⟩ := wrap_facts9 cnt (cnt + 1) rfl (Nat.le_trans HCK.out (Nat.le_trans hkn (Nat.le_trans hn (by decide))))
                      clear hb7 SE2 HC6 HRX6
                      go_wp2_with fail
                      go_loop [8] (fun va => ∃ u : Nat, p + 1 ≤ u ∧ u ≤ n ∧ va = .int .i64 (u : Nat) ∧ Hid (nextS rs (p + 1) = nextS rs u)) (fun va => n - (intOf va).toNat)
                      case atStart => exact ⟨p + 1, Nat.le_refl _, hpl, by go_num, Lib.hid rfl⟩
                      case round =>
                        obtain ⟨u, hu1, hun, rfl, HNu⟩ := hrel
                        by_cases hul : u < n
                        · obtain ⟨hul', hue, hub⟩ := lt_facts9 u n hul hn
                          obtain ⟨yu, hyu⟩ : ∃ y, rs[u]? = some y := ⟨_, List.getElem?_eq_getElem (by rw [HL.out]; exact hul)⟩
                          obtain ⟨b4, o4, hA4, hb4, hr4⟩ := HH.out.range hyu
                          injection hA4 with hA4; injection hA4 with q1 q2; subst q1 q2
                          have HRYu : Hid (∀ wx, Below w.heap.size w wx → wx.rangeAt bb (off + u * 4) (recCells yu)) := Lib.hid (fun wx hb j v hv => (hb.cell (p := ⟨bb, off + u * 4 + j, none⟩) hb4).trans (hr4 j v hv))
                          obtain ⟨Yu, hYu⟩ : ∃ q, q = yu.2.1 := ⟨_, rfl⟩
                          have kyu : w7.cell? ⟨bb, off + u * 4 + 1, none⟩ = some (.int .u16 Yu) := by rw [hYu]; exact HRYu.out w7 HBw7.out 1 _ rfl
                          have hsu : soaB yu = (Yu == 6) := by rw [hYu]; rfl
                          have HYu := Lib.hid hyu
                          clear hyu hb4 hr4 hYu
                          obtain ⟨hvu1, hvu2⟩ := wrap_facts9 u (u + 1) rfl hub
                          cases es : soaB yu with
                          | false =>
                            have e7 : (Yu == 6) = false := by rw [← hsu]; exact es
                            have e7' : (Yu != 6) = true := by simp only [bne, e7]; rfl
                            have HNOu := Lib.hid (nextS_no HYu.out es)
                            clear es hsu
                            go_wp2_with fail
                            go_round
                            case rel => exact ⟨u + 1, Nat.le_succ_of_le hu1, hul, by go_num, Lib.hid (HNu.out.trans HNOu.out)⟩
                            case measure => simp [intOf]; first | exact meas1 hul | omega
                          | true =>
                            have e7 : (Yu == 6) = true := by rw [← hsu]; exact es
                            have e7' : (Yu != 6) = false := by simp only [bne, e7]; rfl
                            have HTu := Lib.hid (HNu.out.trans (nextS_yes HYu.out es))
                            have HESu := Lib.hid es
                            clear es hsu
                            have hnx := HI.out.next HL.out hlt (T := p) (U := u) (t := (t0, t1, t2, t3)) (by rw [HD3.out, HTp.out, HTu.out]) HYp.out HTu.out.symm hp1 hpl HS0.out
                            obtain ⟨hu1, hu2, hu3⟩ := hnx
                            rw [← HTV.out] at hu3
                            have HU3 := Lib.hid hu3
                            clear hu3
                            go_wp2_with fail
                            go_round
                            case rel => exact ⟨TV9, u, cnt + 1, (t0, t1, t2, t3), rfl, rfl, by go_num, Nat.le_trans (Nat.le_add_left 1 p) hu2, hu1, Lib.hid (Nat.le_trans (Nat.succ_le_succ HCK.out) (Nat.le_trans (Nat.le_trans hp1 (Nat.le_succ p)) hu2)), HBw7, HCT7, HU3⟩
                            case measure => simp [intOf]; first | exact meas2 (Nat.le_trans hp1 (Nat.le_trans (Nat.le_succ p) hu2)) hkl | omega
                        · have hul' : ¬ (u : Int) < n := fun h => hul (Int.ofNat_lt.1 h)
                          have hun2 : u = n := Nat.le_antisymm hun (Nat.le_of_not_lt hul)
                          have hue : ((u : Int) == n) = true := by rw [hun2]; simp
                          have HTu := Lib.hid (HNu.out.trans (nextS_end (by rw [HL.out]; exact Nat.le_of_not_lt hul)))
                          have hnx := HI.out.next HL.out hlt (T := p) (U := u) (t := (t0, t1, t2, t3)) (by rw [HD3.out, HTp.out, HTu.out]) HYp.out HTu.out.symm hp1 hpl HS0.out
                          obtain ⟨hu1, hu2, hu3⟩ := hnx
                          rw [← HTV.out] at hu3
                          have HU3 := Lib.hid hu3
                          clear hu3
                          go_wp2_with fail
                          go_round
                          case rel => exact ⟨TV9, u, cnt + 1, (t0, t1, t2, t3), rfl, rfl, by go_num, Nat.le_trans (Nat.le_add_left 1 p) hu2, hu1, Lib.hid (Nat.le_trans (Nat.succ_le_succ HCK.out) (Nat.le_trans (Nat.le_trans hp1 (Nat.le_succ p)) hu2)), HBw7, HCT7, HU3⟩
                          case measure => simp [intOf]; first | exact meas2 (Nat.le_trans hp1 (Nat.le_trans (Nat.le_succ p) hu2)) hkl | omega
                  · have hpl' : ¬ (p : Int) < n := fun h => hpl (Int.ofNat_lt.1 h)
                    have hpn2 : p = n := Nat.le_antisymm hpn (Nat.le_of_not_lt hpl)
                    have hpe : ((p : Int) == n) = true := by rw [hpn2]; simp
                    have HTp := Lib.hid (HNp.out.trans (nextS_end (by rw [HL.out]; exact Nat.le_of_not_lt hpl)))
                    have HF := Lib.hid (HER.out 4 (by rw [HD3.out, HTp.out, if_pos (by rw [hpn2]; exact Nat.sub_le _ _)]))
                    go_wp2_with fail
                    exact HR4.out HF.out _ HBw5.out
              · have hq : ((SV : Int) == (fr2 : Int)) = false := by rw [beq_eq_false_iff_ne]; omega
                have hq2 : ((SV : Int) != (fr2 : Int)) = true := by simp [bne, hq]
                have HF := Lib.hid (HER.out 5 (by rw [HD2.out, if_neg hsf]))
                go_wp2_with fail
                exact HR5.out HF.out _ HB5.out
          · have hlt' : ¬ (k : Int) < (n : Int) - 1 := by omega
            obtain ⟨L, hL⟩ : ∃ L, L = n - 1 := ⟨_, rfl⟩
            have e1 : wrap64 ((n : Int) - 1) = (L : Int) := by unfold wrap64; omega
            have e2 : IntKind.i64.wrap ((n : Int) - 1) = (L : Int) := by rw [IntKind.wrap_i64]; omega
            have e3 : (0 : Int) < n := by omega
            have e4 : 0 < n := by omega
            obtain ⟨VF, hVF⟩ : ∃ v, v = recV rf := ⟨_, rfl⟩
            have HVF := Lib.hid hVF
            have hkc : k = n ∨ k = L := by omega
            have hlm : ¬ (k : Int) < (L : Int) := by omega
            clear hVF
            by_cases hc0 : cnt = 0
            · subst hc0
              have HEQ : Hid (deltasR sf fr rs = .inl 4) := Lib.hid (by
                rcases HI.out with ⟨hkl, done, fu, hcn, -, hg, -⟩ | ⟨-, h⟩
                · have hdn : done = [] := List.eq_nil_of_length_eq_zero hcn
                  subst hdn
                  rw [deltasG_stop (sf := sf) (rs := rs) (k := fu) (fr := fr2) (i := k) (by rw [HL.out]; exact hlt)] at hg
                  unfold deltasR
                  rw [HL.out, hg]
                  rfl
                · exact h)
              have HR4 := Lib.hid (HR4.out HEQ.out)
              clear HI hlt hkc hL
              go_upto_region 27 with fail
              refine wp_region_goesG data_follows (fun x => by simp [putsF, Act.put]; rfl) wr.heap.size wr
                [isV (.int .i64 0), isV (.bool true), isV (.bool true), isV undef, isV undef, isV undef, isV undef, isV undef, isV (.bool true), isV (.bool true), isV undef, isV undef, isV undef, isV undef, isV undef, isV undef, isV undef, isV undef, isV (.bool true), isV (.bool true), isV undef, isV undef, isV undef, isV undef, isV undef, isV (.bool true)]
                (by kernel_rfl) (by kernel_rfl) (by kernel_rfl) rfl ?_ (Below.refl _ _) ?_ ?_
              · repeat (first | exact trivial | refine ⟨isV_stays _, ?_⟩)
              · refine ⟨?_, ?_, ?_, ?_, ?_, ?_, ?_, ?_, ?_, ?_, ?_, ?_, ?_, ?_, ?_, ?_, ?_, ?_, ?_, ?_, ?_, ?_, ?_, ?_, ?_, ?_, trivial⟩
                all_goals
                  intro x wx hR hd
                  simp at hd
                · refine ⟨fun _ => ?_, fun hX => by first | (simp at hX; done) | (simp [hd] at hX; done)⟩
                  (try simp [hd]); go_simp; exact next_same _ rfl rfl hR
                · refine ⟨fun _ => ?_, fun hX => by first | (simp at hX; done) | (simp [hd] at hX; done)⟩
                  (try simp [hd]); go_simp; exact next_same _ rfl rfl hR
                · refine ⟨fun _ => ?_, fun hX => by first | (simp at hX; done) | (simp [hd] at hX; done)⟩
                  (try simp [hd]); go_simp; exact next_same _ rfl rfl hR
                · refine ⟨fun hX => ?_, fun _ => rfl⟩
                  exfalso; first | (simp [hd] at hX; done) | (simp [hd, undef] at hX; done)
                · refine ⟨fun hX => ?_, fun _ => rfl⟩
                  exfalso; first | (simp [hd] at hX; done) | (simp [hd, undef] at hX; done)
                · refine ⟨fun hX => ?_, fun _ => rfl⟩
                  exfalso; first | (simp [hd] at hX; done) | (simp [hd, undef] at hX; done)
                · refine ⟨fun hX => ?_, fun _ => rfl⟩
                  exfalso; first | (simp [hd] at hX; done) | (simp [hd, undef] at hX; done)
                · refine ⟨fun hX => ?_, fun _ => rfl⟩
                  exfalso; first | (simp [hd] at hX; done) | (simp [hd, undef] at hX; done)
                · refine ⟨fun _ => ?_, fun hX => by first | (simp at hX; done) | (simp [hd] at hX; done)⟩
                  (try simp [hd]); go_simp; exact next_same _ rfl rfl hR
                · refine ⟨fun _ => ?_, fun hX => by first | (simp at hX; done) | (simp [hd] at hX; done)⟩
                  (try simp [hd]); go_simp; exact next_same _ rfl rfl hR
                · refine ⟨fun hX => ?_, fun _ => rfl⟩
                  exfalso; first | (simp [hd] at hX; done) | (simp [hd, undef] at hX; done)
                · refine ⟨fun hX => ?_, fun _ => rfl⟩
                  exfalso; first | (simp [hd] at hX; done) | (simp [hd, undef] at hX; done)
                · refine ⟨fun hX => ?_, fun _ => rfl⟩
                  exfalso; first | (simp [hd] at hX; done) | (simp [hd, undef] at hX; done)
                · refine ⟨fun hX => ?_, fun _ => rfl⟩
                  exfalso; first | (simp [hd] at hX; done) | (simp [hd, undef] at hX; done)
                · refine ⟨fun hX => ?_, fun _ => rfl⟩
                  exfalso; first | (simp [hd] at hX; done) | (simp [hd, undef] at hX; done)
                · refine ⟨fun hX => ?_, fun _ => rfl⟩
                  exfalso; first | (simp [hd] at hX; done) | (simp [hd, undef] at hX; done)
                · refine ⟨fun hX => ?_, fun _ => rfl⟩
                  exfalso; first | (simp [hd] at hX; done) | (simp [hd, undef] at hX; done)
                · refine ⟨fun hX => ?_, fun _ => rfl⟩
                  exfalso; first | (simp [hd] at hX; done) | (simp [hd, undef] at hX; done)
                · refine ⟨fun _ => ?_, fun hX => by first | (simp at hX; done) | (simp [hd] at hX; done)⟩
                  (try simp [hd]); go_simp; exact next_same _ rfl rfl hR
                · refine ⟨fun _ => ?_, fun hX => by first | (simp at hX; done) | (simp [hd] at hX; done)⟩
                  (try simp [hd]); go_simp; exact next_same _ rfl rfl hR
                · refine ⟨fun hX => ?_, fun _ => rfl⟩
                  exfalso; first | (simp [hd] at hX; done) | (simp [hd, undef] at hX; done)
                · refine ⟨fun hX => ?_, fun _ => rfl⟩
                  exfalso; first | (simp [hd] at hX; done) | (simp [hd, undef] at hX; done)
                · refine ⟨fun hX => ?_, fun _ => rfl⟩
                  exfalso; first | (simp [hd] at hX; done) | (simp [hd, undef] at hX; done)
                · refine ⟨fun hX => ?_, fun _ => rfl⟩
                  exfalso; first | (simp [hd] at hX; done) | (simp [hd, undef] at hX; done)
                · refine ⟨fun hX => ?_, fun _ => rfl⟩
                  exfalso; first | (simp [hd] at hX; done) | (simp [hd, undef] at hX; done)
                · refine ⟨fun _ => ?_, fun hX => by first | (simp at hX; done) | (simp [hd] at hX; done)⟩
                  (try simp [hd]); go_simp; exact next_same _ rfl rfl hR
              intro x w7 hR hx
              simp [AllWords] at hx
              have h25 : x 25 = .bool true := by simp [hx]
              rw [h25]
              clear hx h25
              have HB7 := Lib.hid (below_trans HB.out HB.out.size hR)
              clear hR
              go_wp2_with fail
              exact HR4.out _ HB7.out
            · have hc1 : ((cnt : Int) == 0) = false := by rw [beq_eq_false_iff_ne]; omega
              have hc2 : ¬ (cnt : Int) = 0 := by omega
              rcases hkc with hkn2 | hkL
              · subst hkn2
                have hkd : ((k : Int) == (L : Int)) = false := by rw [beq_eq_false_iff_ne]; omega
                have hkd' : ((k : Int) != (L : Int)) = true := by simp only [bne, hkd]; rfl
                have HEQ : Hid (deltasR sf fr rs = .inl 4) := Lib.hid (by
                  rcases HI.out with ⟨hkl, -⟩ | ⟨-, h⟩
                  · exfalso; omega
                  · exact h)
                have HR4 := Lib.hid (HR4.out HEQ.out)
                clear HI hlt hL
                go_upto_region 27 with fail
                refine wp_region_goesG data_follows (fun x => by simp [putsF, Act.put]; rfl) wr.heap.size wr
                  [isV (.int .i64 (cnt : Nat)), isV (.bool false), isV (.bool false), isV (.int .i64 (k : Nat)), isV (.slice (some ⟨bb, off, none⟩) k c), isV (.int .i64 (k : Nat)), isV (.int .i64 (L : Nat)), isV (.bool true), isV (.bool true), isV (.bool true), isV undef, isV undef, isV undef, isV undef, isV undef, isV undef, isV undef, isV undef, isV (.bool true), isV (.bool true), isV undef, isV undef, isV undef, isV undef, isV undef, isV (.bool true)]
                  (by kernel_rfl) (by kernel_rfl) (by kernel_rfl) rfl ?_ (Below.refl _ _) ?_ ?_
                · repeat (first | exact trivial | refine ⟨isV_stays _, ?_⟩)
                · refine ⟨?_, ?_, ?_, ?_, ?_, ?_, ?_, ?_, ?_, ?_, ?_, ?_, ?_, ?_, ?_, ?_, ?_, ?_, ?_, ?_, ?_, ?_, ?_, ?_, ?_, ?_, trivial⟩
                  all_goals
                    intro x wx hR hd
                    simp at hd
                  · refine ⟨fun _ => ?_, fun hX => by first | (simp at hX; done) | (simp [hd] at hX; done)⟩
                    (try simp [hd]); go_simp; exact next_same _ rfl rfl hR
                  · refine ⟨fun _ => ?_, fun hX => by first | (simp at hX; done) | (simp [hd] at hX; done)⟩
                    (try simp [hd]); go_simp; exact next_same _ rfl rfl hR
                  · refine ⟨fun _ => ?_, fun hX => by first | (simp at hX; done) | (simp [hd] at hX; done)⟩
                    (try simp [hd]); go_simp; exact next_same _ rfl rfl hR
                  · refine ⟨fun _ => ?_, fun hX => by first | (simp at hX; done) | (simp [hd] at hX; done)⟩
                    (try simp [hd]); go_simp; exact next_same _ rfl rfl hR
                  · refine ⟨fun _ => ?_, fun hX => by first | (simp at hX; done) | (simp [hd] at hX; done)⟩
                    (try simp [hd]); go_simp; exact next_same _ rfl rfl hR
                  · refine ⟨fun _ => ?_, fun hX => by first | (simp at hX; done) | (simp [hd] at hX; done)⟩
                    (try simp [hd]); go_simp; exact next_same _ rfl rfl hR
                  · refine ⟨fun _ => ?_, fun hX => by first | (simp at hX; done) | (simp [hd] at hX; done)⟩
                    (try simp [hd]); go_simp; exact next_same _ rfl rfl hR
                  · refine ⟨fun _ => ?_, fun hX => by first | (simp at hX; done) | (simp [hd] at hX; done)⟩
                    (try simp [hd]); go_simp; exact next_same _ rfl rfl hR
                  · refine ⟨fun _ => ?_, fun hX => by first | (simp at hX; done) | (simp [hd] at hX; done)⟩
                    (try simp [hd]); go_simp; exact next_same _ rfl rfl hR
                  · refine ⟨fun _ => ?_, fun hX => by first | (simp at hX; done) | (simp [hd] at hX; done)⟩
                    (try simp [hd]); go_simp; exact next_same _ rfl rfl hR
                  · refine ⟨fun hX => ?_, fun _ => rfl⟩
                    exfalso; first | (simp [hd] at hX; done) | (simp [hd, undef] at hX; done)
                  · refine ⟨fun hX => ?_, fun _ => rfl⟩
                    exfalso; first | (simp [hd] at hX; done) | (simp [hd, undef] at hX; done)
                  · refine ⟨fun hX => ?_, fun _ => rfl⟩
                    exfalso; first | (simp [hd] at hX; done) | (simp [hd, undef] at hX; done)
                  · refine ⟨fun hX => ?_, fun _ => rfl⟩
                    exfalso; first | (simp [hd] at hX; done) | (simp [hd, undef] at hX; done)
                  · refine ⟨fun hX => ?_, fun _ => rfl⟩
                    exfalso; first | (simp [hd] at hX; done) | (simp [hd, undef] at hX; done)
                  · refine ⟨fun hX => ?_, fun _ => rfl⟩
                    exfalso; first | (simp [hd] at hX; done) | (simp [hd, undef] at hX; done)
                  · refine ⟨fun hX => ?_, fun _ => rfl⟩
                    exfalso; first | (simp [hd] at hX; done) | (simp [hd, undef] at hX; done)
                  · refine ⟨fun hX => ?_, fun _ => rfl⟩
                    exfalso; first | (simp [hd] at hX; done) | (simp [hd, undef] at hX; done)
                  · refine ⟨fun _ => ?_, fun hX => by first | (simp at hX; done) | (simp [hd] at hX; done)⟩
                    (try simp [hd]); go_simp; exact next_same _ rfl rfl hR
                  · refine ⟨fun _ => ?_, fun hX => by first | (simp at hX; done) | (simp [hd] at hX; done)⟩
                    (try simp [hd]); go_simp; exact next_same _ rfl rfl hR
                  · refine ⟨fun hX => ?_, fun _ => rfl⟩
                    exfalso; first | (simp [hd] at hX; done) | (simp [hd, undef] at hX; done)
                  · refine ⟨fun hX => ?_, fun _ => rfl⟩
                    exfalso; first | (simp [hd] at hX; done) | (simp [hd, undef] at hX; done)
                  · refine ⟨fun hX => ?_, fun _ => rfl⟩
                    exfalso; first | (simp [hd] at hX; done) | (simp [hd, undef] at hX; done)
                  · refine ⟨fun hX => ?_, fun _ => rfl⟩
                    exfalso; first | (simp [hd] at hX; done) | (simp [hd, undef] at hX; done)
                  · refine ⟨fun hX => ?_, fun _ => rfl⟩
                    exfalso; first | (simp [hd] at hX; done) | (simp [hd, undef] at hX; done)
                  · refine ⟨fun _ => ?_, fun hX => by first | (simp at hX; done) | (simp [hd] at hX; done)⟩
                    (try simp [hd]); go_simp; exact next_same _ rfl rfl hR
                intro x w7 hR hx
                simp [AllWords] at hx
                have h25 : x 25 = .bool true := by simp [hx]
                rw [h25]
                clear hx h25
                have HB7 := Lib.hid (below_trans HB.out HB.out.size hR)
                clear hR
                go_wp2_with fail
                exact HR4.out _ HB7.out
              · have hkd : ((k : Int) == (L : Int)) = true := by rw [beq_iff_eq]; omega
                have hkd' : ((k : Int) != (L : Int)) = false := by simp only [bne, hkd]; rfl
                have hkn' : (k : Int) < n := by omega
                have hkn'' : k < n := by omega
                obtain ⟨rl, hrl⟩ : ∃ r, rs[k]? = some r := ⟨_, List.getElem?_eq_getElem (by rw [HL.out]; exact hkn'')⟩
                obtain ⟨b3, o3, hA3, hb3, hr3⟩ := HH.out.range hrl
                injection hA3 with hA3; injection hA3 with q1 q2; subst q1 q2
                have HRL : Hid (∀ wx, Below w.heap.size w wx → wx.rangeAt bb (off + k * 4) (recCells rl)) := Lib.hid (fun wx hb j v hv => (hb.cell (p := ⟨bb, off + k * 4 + j, none⟩) hb3).trans (hr3 j v hv))
                have HRT : Hid (∀ wx, Below wr.heap.size wr wx → wx.rangeAt gt 0 (recCells tr)) := Lib.hid (fun wx hb => (HCT.out.below hb).range)
                obtain ⟨VL, hVL⟩ : ∃ v, v = recV rl := ⟨_, rfl⟩
                obtain ⟨VT, hVT⟩ : ∃ v, v = recV tr := ⟨_, rfl⟩
                have HVL := Lib.hid hVL
                have HVT := Lib.hid hVT
                have HN1 : Hid (∀ w, (binOp .neq 32 VL VF).run Tryd.prog w = .ok (.bool (!eqB rl rf)) w) := Lib.hid (fun w => by rw [HVL.out, HVF.out]; exact rec_neq rl rf w)
                have HN2 : Hid (∀ w, (binOp .neq 32 VT VF).run Tryd.prog w = .ok (.bool (!eqB tr rf)) w) := Lib.hid (fun w => by rw [HVT.out, HVF.out]; exact rec_neq tr rf w)
                have HEQ : Hid (∃ done : List DTrip, done.length = cnt ∧ deltasR sf fr rs = if (eqB rl rf && eqB tr rf) = true then .inr done else .inl 4) := Lib.hid (by
                  rcases HI.out with ⟨hkl, done, fu, hcn, -, hg, hlst⟩ | ⟨h, -⟩
                  · rw [deltasG_stop (sf := sf) (rs := rs) (k := fu) (fr := fr2) (i := k) (by rw [HL.out]; exact hlt)] at hg
                    refine ⟨done, hcn, ?_⟩
                    unfold deltasR
                    rw [HL.out, hg]
                    simp only [preD, List.append_nil]
                    have hne : done ≠ [] := by intro h; rw [h] at hcn; exact hc0 hcn.symm
                    obtain ⟨x, hx⟩ : ∃ x, done.getLast? = some x := ⟨_, List.getLast?_eq_some_getLast hne⟩
                    have hek : endOk rs done = (eqB rl rf && eqB tr rf) := by
                      unfold endOk
                      rw [hx]
                      simp only
                      rw [HL.out, hlst x hx, HR0.out, ← hL, ← hkL, rAt_of hrl]
                    rw [hek]
                  · exfalso; omega)
                clear HI hlt hL hrl hb3 hr3 hVL hVT hkL
                cases hq1 : eqB rl rf with
                | false =>
                  rw [hq1] at HN1
                  have HR4 := Lib.hid (HR4.out (by obtain ⟨done, -, h⟩ := HEQ.out; rw [h, hq1]; rfl))
                  clear hq1 HEQ
                  go_upto_region 27 with fail
                  refine wp_region_goesG data_follows (fun x => by simp [putsF, Act.put]; rfl) wr.heap.size wr
                    [isV (.int .i64 (cnt : Nat)), isV (.bool false), isV (.bool false), isV (.int .i64 (k : Nat)), isV (.slice (some ⟨bb, off, none⟩) n c), isV (.int .i64 (n : Nat)), isV (.int .i64 (L : Nat)), isV (.bool false), isV (.bool false), isV (.bool false), isV (.slice (some ⟨bb, off, none⟩) n c), isV (.int .i64 (k : Nat)), isV (.pointer (some ⟨bb, off + k * 4, none⟩)), isV VL, isV (.slice (some ⟨bb, off, none⟩) n c), isV (.pointer (some ⟨bb, off, none⟩)), isV VF, isV (.bool true), isV (.bool true), isV (.bool true), isV undef, isV undef, isV undef, isV undef, isV undef, isV (.bool true)]
                    (by kernel_rfl) (by kernel_rfl) (by kernel_rfl) rfl ?_ (Below.refl _ _) ?_ ?_
                  · repeat (first | exact trivial | refine ⟨isV_stays _, ?_⟩)
                  · refine ⟨?_, ?_, ?_, ?_, ?_, ?_, ?_, ?_, ?_, ?_, ?_, ?_, ?_, ?_, ?_, ?_, ?_, ?_, ?_, ?_, ?_, ?_, ?_, ?_, ?_, ?_, trivial⟩
                    all_goals
                      intro x wx hR hd
                      simp at hd
                    · refine ⟨fun _ => ?_, fun hX => by first | (simp at hX; done) | (simp [hd] at hX; done)⟩
                      (try simp [hd]); go_simp; exact next_same _ rfl rfl hR
                    · refine ⟨fun _ => ?_, fun hX => by first | (simp at hX; done) | (simp [hd] at hX; done)⟩
                      (try simp [hd]); go_simp; exact next_same _ rfl rfl hR
                    · refine ⟨fun _ => ?_, fun hX => by first | (simp at hX; done) | (simp [hd] at hX; done)⟩
                      (try simp [hd]); go_simp; exact next_same _ rfl rfl hR
                    · refine ⟨fun _ => ?_, fun hX => by first | (simp at hX; done) | (simp [hd] at hX; done)⟩
                      (try simp [hd]); go_simp; exact next_same _ rfl rfl hR
                    · refine ⟨fun _ => ?_, fun hX => by first | (simp at hX; done) | (simp [hd] at hX; done)⟩
                      (try simp [hd]); go_simp; exact next_same _ rfl rfl hR
                    · refine ⟨fun _ => ?_, fun hX => by first | (simp at hX; done) | (simp [hd] at hX; done)⟩
                      (try simp [hd]); go_simp; exact next_same _ rfl rfl hR
                    · refine ⟨fun _ => ?_, fun hX => by first | (simp at hX; done) | (simp [hd] at hX; done)⟩
                      (try simp [hd]); go_simp; exact next_same _ rfl rfl hR
                    · refine ⟨fun _ => ?_, fun hX => by first | (simp at hX; done) | (simp [hd] at hX; done)⟩
                      (try simp [hd]); go_simp; exact next_same _ rfl rfl hR
                    · refine ⟨fun _ => ?_, fun hX => by first | (simp at hX; done) | (simp [hd] at hX; done)⟩
                      (try simp [hd]); go_simp; exact next_same _ rfl rfl hR
                    · refine ⟨fun _ => ?_, fun hX => by first | (simp at hX; done) | (simp [hd] at hX; done)⟩
                      (try simp [hd]); go_simp; exact next_same _ rfl rfl hR
                    · refine ⟨fun _ => ?_, fun hX => by first | (simp at hX; done) | (simp [hd] at hX; done)⟩
                      (try simp [hd]); go_simp; exact next_same _ rfl rfl hR
                    · refine ⟨fun _ => ?_, fun hX => by first | (simp at hX; done) | (simp [hd] at hX; done)⟩
                      (try simp [hd]); go_simp; exact next_same _ rfl rfl hR
                    · refine ⟨fun _ => ?_, fun hX => by first | (simp at hX; done) | (simp [hd] at hX; done)⟩
                      (try simp [hd]); go_simp; exact next_same _ rfl rfl hR
                    · refine ⟨fun _ => ?_, fun hX => by first | (simp at hX; done) | (simp [hd] at hX; done)⟩
                      refine wp_load_mid 32 _ rfl bb (off + k * 4) (by simp [go_sem, hd]) _ _ (HRL.out wx (below_trans HB.out HB.out.size hR)) Tryd.underlying32 rfl (by kernel_rfl) ?_
                      exact next_same _ rfl HVL.out.symm hR
                    · refine ⟨fun _ => ?_, fun hX => by first | (simp at hX; done) | (simp [hd] at hX; done)⟩
                      (try simp [hd]); go_simp; exact next_same _ rfl rfl hR
                    · refine ⟨fun _ => ?_, fun hX => by first | (simp at hX; done) | (simp [hd] at hX; done)⟩
                      (try simp [hd]); go_simp; exact next_same _ rfl rfl hR
                    · refine ⟨fun _ => ?_, fun hX => by first | (simp at hX; done) | (simp [hd] at hX; done)⟩
                      refine wp_load_mid 32 _ rfl bb (off) (by simp [go_sem, hd]) _ _ (HRF.out wx (below_trans HB.out HB.out.size hR)) Tryd.underlying32 rfl (by kernel_rfl) ?_
                      exact next_same _ rfl HVF.out.symm hR
                    · refine ⟨fun _ => ?_, fun hX => by first | (simp at hX; done) | (simp [hd] at hX; done)⟩
                      obtain ⟨hd0, hd1, -⟩ := hd
                      exact wp_binop _ _ _ _ _ rfl hd0 hd1 (by rw [HVL.out, HVF.out]; first | kernel_rfl | rfl) (HN1.out wx) (next_same _ rfl rfl hR)
                    · refine ⟨fun _ => ?_, fun hX => by first | (simp at hX; done) | (simp [hd] at hX; done)⟩
                      (try simp [hd]); go_simp; exact next_same _ rfl rfl hR
                    · refine ⟨fun _ => ?_, fun hX => by first | (simp at hX; done) | (simp [hd] at hX; done)⟩
                      (try simp [hd]); go_simp; exact next_same _ rfl rfl hR
                    · refine ⟨fun hX => ?_, fun _ => rfl⟩
                      exfalso; first | (simp [hd] at hX; done) | (simp [hd, undef] at hX; done)
                    · refine ⟨fun hX => ?_, fun _ => rfl⟩
                      exfalso; first | (simp [hd] at hX; done) | (simp [hd, undef] at hX; done)
                    · refine ⟨fun hX => ?_, fun _ => rfl⟩
                      exfalso; first | (simp [hd] at hX; done) | (simp [hd, undef] at hX; done)
                    · refine ⟨fun hX => ?_, fun _ => rfl⟩
                      exfalso; first | (simp [hd] at hX; done) | (simp [hd, undef] at hX; done)
                    · refine ⟨fun hX => ?_, fun _ => rfl⟩
                      exfalso; first | (simp [hd] at hX; done) | (simp [hd, undef] at hX; done)
                    · refine ⟨fun _ => ?_, fun hX => by first | (simp at hX; done) | (simp [hd] at hX; done)⟩
                      (try simp [hd]); go_simp; exact next_same _ rfl rfl hR
                  intro x w7 hR hx
                  simp [AllWords] at hx
                  have h25 : x 25 = .bool true := by simp [hx]
                  rw [h25]
                  clear hx h25
                  have HB7 := Lib.hid (below_trans HB.out HB.out.size hR)
                  clear hR
                  go_wp2_with fail
                  exact HR4.out _ HB7.out
                | true =>
                  rw [hq1] at HN1
                  cases hq2 : eqB tr rf with
                  | false =>
                    rw [hq2] at HN2
                    have HR4 := Lib.hid (HR4.out (by obtain ⟨done, -, h⟩ := HEQ.out; rw [h, hq1, hq2]; rfl))
                    clear hq1 hq2 HEQ
                    go_upto_region 27 with fail
                    refine wp_region_goesG data_follows (fun x => by simp [putsF, Act.put]; rfl) wr.heap.size wr
                      [isV (.int .i64 (cnt : Nat)), isV (.bool false), isV (.bool false), isV (.int .i64 (k : Nat)), isV (.slice (some ⟨bb, off, none⟩) n c), isV (.int .i64 (n : Nat)), isV (.int .i64 (L : Nat)), isV (.bool false), isV (.bool false), isV (.bool false), isV (.slice (some ⟨bb, off, none⟩) n c), isV (.int .i64 (k : Nat)), isV (.pointer (some ⟨bb, off + k * 4, none⟩)), isV VL, isV (.slice (some ⟨bb, off, none⟩) n c), isV (.pointer (some ⟨bb, off, none⟩)), isV VF, isV (.bool false), isV (.bool false), isV (.bool false), isV VT, isV (.slice (some ⟨bb, off, none⟩) n c), isV (.pointer (some ⟨bb, off, none⟩)), isV VF, isV (.bool true), isV (.bool true)]
                      (by kernel_rfl) (by kernel_rfl) (by kernel_rfl) rfl ?_ (Below.refl _ _) ?_ ?_
                    · repeat (first | exact trivial | refine ⟨isV_stays _, ?_⟩)
                    · refine ⟨?_, ?_, ?_, ?_, ?_, ?_, ?_, ?_, ?_, ?_, ?_, ?_, ?_, ?_, ?_, ?_, ?_, ?_, ?_, ?_, ?_, ?_, ?_, ?_, ?_, ?_, trivial⟩
                      all_goals
                        intro x wx hR hd
                        simp at hd
                      · refine ⟨fun _ => ?_, fun hX => by first | (simp at hX; done) | (simp [hd] at hX; done)⟩
                        (try simp [hd]); go_simp; exact next_same _ rfl rfl hR
                      · refine ⟨fun _ => ?_, fun hX => by first | (simp at hX; done) | (simp [hd] at hX; done)⟩
                        (try simp [hd]); go_simp; exact next_same _ rfl rfl hR
                      · refine ⟨fun _ => ?_, fun hX => by first | (simp at hX; done) | (simp [hd] at hX; done)⟩
                        (try simp [hd]); go_simp; exact next_same _ rfl rfl hR
                      · refine ⟨fun _ => ?_, fun hX => by first | (simp at hX; done) | (simp [hd] at hX; done)⟩
                        (try simp [hd]); go_simp; exact next_same _ rfl rfl hR
                      · refine ⟨fun _ => ?_, fun hX => by first | (simp at hX; done) | (simp [hd] at hX; done)⟩
                        (try simp [hd]); go_simp; exact next_same _ rfl rfl hR
                      · refine ⟨fun _ => ?_, fun hX => by first | (simp at hX; done) | (simp [hd] at hX; done)⟩
                        (try simp [hd]); go_simp; exact next_same _ rfl rfl hR
                      · refine ⟨fun _ => ?_, fun hX => by first | (simp at hX; done) | (simp [hd] at hX; done)⟩
                        (try simp [hd]); go_simp; exact next_same _ rfl rfl hR
                      · refine ⟨fun _ => ?_, fun hX => by first | (simp at hX; done) | (simp [hd] at hX; done)⟩
                        (try simp [hd]); go_simp; exact next_same _ rfl rfl hR
                      · refine ⟨fun _ => ?_, fun hX => by first | (simp at hX; done) | (simp [hd] at hX; done)⟩
                        (try simp [hd]); go_simp; exact next_same _ rfl rfl hR
                      · refine ⟨fun _ => ?_, fun hX => by first | (simp at hX; done) | (simp [hd] at hX; done)⟩
                        (try simp [hd]); go_simp; exact next_same _ rfl rfl hR
                      · refine ⟨fun _ => ?_, fun hX => by first | (simp at hX; done) | (simp [hd] at hX; done)⟩
                        (try simp [hd]); go_simp; exact next_same _ rfl rfl hR
                      · refine ⟨fun _ => ?_, fun hX => by first | (simp at hX; done) | (simp [hd] at hX; done)⟩
                        (try simp [hd]); go_simp; exact next_same _ rfl rfl hR
                      · refine ⟨fun _ => ?_, fun hX => by first | (simp at hX; done) | (simp [hd] at hX; done)⟩
                        (try simp [hd]); go_simp; exact next_same _ rfl rfl hR
                      · refine ⟨fun _ => ?_, fun hX => by first | (simp at hX; done) | (simp [hd] at hX; done)⟩
                        refine wp_load_mid 32 _ rfl bb (off + k * 4) (by simp [go_sem, hd]) _ _ (HRL.out wx (below_trans HB.out HB.out.size hR)) Tryd.underlying32 rfl (by kernel_rfl) ?_
                        exact next_same _ rfl HVL.out.symm hR
                      · refine ⟨fun _ => ?_, fun hX => by first | (simp at hX; done) | (simp [hd] at hX; done)⟩
                        (try simp [hd]); go_simp; exact next_same _ rfl rfl hR
                      · refine ⟨fun _ => ?_, fun hX => by first | (simp at hX; done) | (simp [hd] at hX; done)⟩
                        (try simp [hd]); go_simp; exact next_same _ rfl rfl hR
                      · refine ⟨fun _ => ?_, fun hX => by first | (simp at hX; done) | (simp [hd] at hX; done)⟩
                        refine wp_load_mid 32 _ rfl bb (off) (by simp [go_sem, hd]) _ _ (HRF.out wx (below_trans HB.out HB.out.size hR)) Tryd.underlying32 rfl (by kernel_rfl) ?_
                        exact next_same _ rfl HVF.out.symm hR
                      · refine ⟨fun _ => ?_, fun hX => by first | (simp at hX; done) | (simp [hd] at hX; done)⟩
                        obtain ⟨hd0, hd1, -⟩ := hd
                        exact wp_binop _ _ _ _ _ rfl hd0 hd1 (by rw [HVL.out, HVF.out]; first | kernel_rfl | rfl) (HN1.out wx) (next_same _ rfl rfl hR)
                      · refine ⟨fun _ => ?_, fun hX => by first | (simp at hX; done) | (simp [hd] at hX; done)⟩
                        (try simp [hd]); go_simp; exact next_same _ rfl rfl hR
                      · refine ⟨fun _ => ?_, fun hX => by first | (simp at hX; done) | (simp [hd] at hX; done)⟩
                        (try simp [hd]); go_simp; exact next_same _ rfl rfl hR
                      · refine ⟨fun _ => ?_, fun hX => by first | (simp at hX; done) | (simp [hd] at hX; done)⟩
                        refine wp_load_mid 32 _ rfl gt (0) (by simp [go_sem, hd]) _ _ (HRT.out wx hR) Tryd.underlying32 rfl (by kernel_rfl) ?_
                        exact next_same _ rfl HVT.out.symm hR
                      · refine ⟨fun _ => ?_, fun hX => by first | (simp at hX; done) | (simp [hd] at hX; done)⟩
                        (try simp [hd]); go_simp; exact next_same _ rfl rfl hR
                      · refine ⟨fun _ => ?_, fun hX => by first | (simp at hX; done) | (simp [hd] at hX; done)⟩
                        (try simp [hd]); go_simp; exact next_same _ rfl rfl hR
                      · refine ⟨fun _ => ?_, fun hX => by first | (simp at hX; done) | (simp [hd] at hX; done)⟩
                        refine wp_load_mid 32 _ rfl bb (off) (by simp [go_sem, hd]) _ _ (HRF.out wx (below_trans HB.out HB.out.size hR)) Tryd.underlying32 rfl (by kernel_rfl) ?_
                        exact next_same _ rfl HVF.out.symm hR
                      · refine ⟨fun _ => ?_, fun hX => by first | (simp at hX; done) | (simp [hd] at hX; done)⟩
                        obtain ⟨hd0, hd1, -⟩ := hd
                        exact wp_binop _ _ _ _ _ rfl hd0 hd1 (by rw [HVT.out, HVF.out]; first | kernel_rfl | rfl) (HN2.out wx) (next_same _ rfl rfl hR)
                      · refine ⟨fun _ => ?_, fun hX => by first | (simp at hX; done) | (simp [hd] at hX; done)⟩
                        (try simp [hd]); go_simp; exact next_same _ rfl rfl hR
                    intro x w7 hR hx
                    simp [AllWords] at hx
                    have h25 : x 25 = .bool true := by simp [hx]
                    rw [h25]
                    clear hx h25
                    have HB7 := Lib.hid (below_trans HB.out HB.out.size hR)
                    clear hR
                    go_wp2_with fail
                    exact HR4.out _ HB7.out
                  | true =>
                    rw [hq2] at HN2
                    have HRC : Hid (∀ w', Below w.heap.size w w' → AR (.returned (.tuple #[.int .i64 0, .int .i64 (cnt : Nat)])) w') := Lib.hid (fun w' hb => by
                      obtain ⟨done, hcn, h⟩ := HEQ.out
                      rw [hq1, hq2] at h
                      refine HR.out _ _ _ ?_ hb
                      rw [HT.out done h, hcn])
                    clear hq1 hq2 HEQ
                    go_upto_region 27 with fail
                    refine wp_region_goesG data_follows (fun x => by simp [putsF, Act.put]; rfl) wr.heap.size wr
                      [isV (.int .i64 (cnt : Nat)), isV (.bool false), isV (.bool false), isV (.int .i64 (k : Nat)), isV (.slice (some ⟨bb, off, none⟩) n c), isV (.int .i64 (n : Nat)), isV (.int .i64 (L : Nat)), isV (.bool false), isV (.bool false), isV (.bool false), isV (.slice (some ⟨bb, off, none⟩) n c), isV (.int .i64 (k : Nat)), isV (.pointer (some ⟨bb, off + k * 4, none⟩)), isV VL, isV (.slice (some ⟨bb, off, none⟩) n c), isV (.pointer (some ⟨bb, off, none⟩)), isV VF, isV (.bool false), isV (.bool false), isV (.bool false), isV VT, isV (.slice (some ⟨bb, off, none⟩) n c), isV (.pointer (some ⟨bb, off, none⟩)), isV VF, isV (.bool false), isV (.bool false)]
                      (by kernel_rfl) (by kernel_rfl) (by kernel_rfl) rfl ?_ (Below.refl _ _) ?_ ?_
                    · repeat (first | exact trivial | refine ⟨isV_stays _, ?_⟩)
                    · refine ⟨?_, ?_, ?_, ?_, ?_, ?_, ?_, ?_, ?_, ?_, ?_, ?_, ?_, ?_, ?_, ?_, ?_, ?_, ?_, ?_, ?_, ?_, ?_, ?_, ?_, ?_, trivial⟩
                      all_goals
                        intro x wx hR hd
                        simp at hd
                      · refine ⟨fun _ => ?_, fun hX => by first | (simp at hX; done) | (simp [hd] at hX; done)⟩
                        (try simp [hd]); go_simp; exact next_same _ rfl rfl hR
                      · refine ⟨fun _ => ?_, fun hX => by first | (simp at hX; done) | (simp [hd] at hX; done)⟩
                        (try simp [hd]); go_simp; exact next_same _ rfl rfl hR
                      · refine ⟨fun _ => ?_, fun hX => by first | (simp at hX; done) | (simp [hd] at hX; done)⟩
                        (try simp [hd]); go_simp; exact next_same _ rfl rfl hR
                      · refine ⟨fun _ => ?_, fun hX => by first | (simp at hX; done) | (simp [hd] at hX; done)⟩
                        (try simp [hd]); go_simp; exact next_same _ rfl rfl hR
                      · refine ⟨fun _ => ?_, fun hX => by first | (simp at hX; done) | (simp [hd] at hX; done)⟩
                        (try simp [hd]); go_simp; exact next_same _ rfl rfl hR
                      · refine ⟨fun _ => ?_, fun hX => by first | (simp at hX; done) | (simp [hd] at hX; done)⟩
                        (try simp [hd]); go_simp; exact next_same _ rfl rfl hR
                      · refine ⟨fun _ => ?_, fun hX => by first | (simp at hX; done) | (simp [hd] at hX; done)⟩
                        (try simp [hd]); go_simp; exact next_same _ rfl rfl hR
                      · refine ⟨fun _ => ?_, fun hX => by first | (simp at hX; done) | (simp [hd] at hX; done)⟩
                        (try simp [hd]); go_simp; exact next_same _ rfl rfl hR
                      · refine ⟨fun _ => ?_, fun hX => by first | (simp at hX; done) | (simp [hd] at hX; done)⟩
                        (try simp [hd]); go_simp; exact next_same _ rfl rfl hR
                      · refine ⟨fun _ => ?_, fun hX => by first | (simp at hX; done) | (simp [hd] at hX; done)⟩
                        (try simp [hd]); go_simp; exact next_same _ rfl rfl hR
                      · refine ⟨fun _ => ?_, fun hX => by first | (simp at hX; done) | (simp [hd] at hX; done)⟩
                        (try simp [hd]); go_simp; exact next_same _ rfl rfl hR
                      · refine ⟨fun _ => ?_, fun hX => by first | (simp at hX; done) | (simp [hd] at hX; done)⟩
                        (try simp [hd]); go_simp; exact next_same _ rfl rfl hR
                      · refine ⟨fun _ => ?_, fun hX => by first | (simp at hX; done) | (simp [hd] at hX; done)⟩
                        (try simp [hd]); go_simp; exact next_same _ rfl rfl hR
                      · refine ⟨fun _ => ?_, fun hX => by first | (simp at hX; done) | (simp [hd] at hX; done)⟩
                        refine wp_load_mid 32 _ rfl bb (off + k * 4) (by simp [go_sem, hd]) _ _ (HRL.out wx (below_trans HB.out HB.out.size hR)) Tryd.underlying32 rfl (by kernel_rfl) ?_
                        exact next_same _ rfl HVL.out.symm hR
                      · refine ⟨fun _ => ?_, fun hX => by first | (simp at hX; done) | (simp [hd] at hX; done)⟩
                        (try simp [hd]); go_simp; exact next_same _ rfl rfl hR
                      · refine ⟨fun _ => ?_, fun hX => by first | (simp at hX; done) | (simp [hd] at hX; done)⟩
                        (try simp [hd]); go_simp; exact next_same _ rfl rfl hR
                      · refine ⟨fun _ => ?_, fun hX => by first | (simp at hX; done) | (simp [hd] at hX; done)⟩
                        refine wp_load_mid 32 _ rfl bb (off) (by simp [go_sem, hd]) _ _ (HRF.out wx (below_trans HB.out HB.out.size hR)) Tryd.underlying32 rfl (by kernel_rfl) ?_
                        exact next_same _ rfl HVF.out.symm hR
                      · refine ⟨fun _ => ?_, fun hX => by first | (simp at hX; done) | (simp [hd] at hX; done)⟩
                        obtain ⟨hd0, hd1, -⟩ := hd
                        exact wp_binop _ _ _ _ _ rfl hd0 hd1 (by rw [HVL.out, HVF.out]; first | kernel_rfl | rfl) (HN1.out wx) (next_same _ rfl rfl hR)
                      · refine ⟨fun _ => ?_, fun hX => by first | (simp at hX; done) | (simp [hd] at hX; done)⟩
                        (try simp [hd]); go_simp; exact next_same _ rfl rfl hR
                      · refine ⟨fun _ => ?_, fun hX => by first | (simp at hX; done) | (simp [hd] at hX; done)⟩
                        (try simp [hd]); go_simp; exact next_same _ rfl rfl hR
                      · refine ⟨fun _ => ?_, fun hX => by first | (simp at hX; done) | (simp [hd] at hX; done)⟩
                        refine wp_load_mid 32 _ rfl gt (0) (by simp [go_sem, hd]) _ _ (HRT.out wx hR) Tryd.underlying32 rfl (by kernel_rfl) ?_
                        exact next_same _ rfl HVT.out.symm hR
                      · refine ⟨fun _ => ?_, fun hX => by first | (simp at hX; done) | (simp [hd] at hX; done)⟩
                        (try simp [hd]); go_simp; exact next_same _ rfl rfl hR
                      · refine ⟨fun _ => ?_, fun hX => by first | (simp at hX; done) | (simp [hd] at hX; done)⟩
                        (try simp [hd]); go_simp; exact next_same _ rfl rfl hR
                      · refine ⟨fun _ => ?_, fun hX => by first | (simp at hX; done) | (simp [hd] at hX; done)⟩
                        refine wp_load_mid 32 _ rfl bb (off) (by simp [go_sem, hd]) _ _ (HRF.out wx (below_trans HB.out HB.out.size hR)) Tryd.underlying32 rfl (by kernel_rfl) ?_
                        exact next_same _ rfl HVF.out.symm hR
                      · refine ⟨fun _ => ?_, fun hX => by first | (simp at hX; done) | (simp [hd] at hX; done)⟩
                        obtain ⟨hd0, hd1, -⟩ := hd
                        exact wp_binop _ _ _ _ _ rfl hd0 hd1 (by rw [HVT.out, HVF.out]; first | kernel_rfl | rfl) (HN2.out wx) (next_same _ rfl rfl hR)
                      · refine ⟨fun _ => ?_, fun hX => by first | (simp at hX; done) | (simp [hd] at hX; done)⟩
                        (try simp [hd]); go_simp; exact next_same _ rfl rfl hR
                    intro x w7 hR hx
                    simp [AllWords] at hx
                    have h25 : x 25 = .bool false := by simp [hx]
                    rw [h25]
                    clear hx h25
                    have HB7 := Lib.hid (below_trans HB.out HB.out.size hR)
                    clear hR
                    go_wp2_with fail
                    exact HRC.out _ HB7.out
end Go.Proofs.YtkpjehplchdmgaaDoor
namespace Go.Proofs.YtkpjehplchdmgaaDoor
open Go.RowKit
set_option linter.unusedVariables false
set_option linter.unusedSimpArgs false
set_option maxRecDepth 20000
attribute [local simp] putsF isV wordOf Deps Region.binds Region.wanted Act.put wantedX isB
theorem until_mono {k : Nat} {p : Value → World → Prop} {d : Nat → Bool} {K : Nat} {v : Value} {w : World} (h : until_ k p d v w) : until_ k p (setD d K) v w := fun hk => h (setD_false hk)
/-- A slice of n elements over a block of these cells, which lies above B. -/
def litB (B n : Nat) (vs : List Value) : Value → World → Prop := fun v w => ∃ g, v = .slice (some ⟨g, 0, none⟩) n n ∧ B ≤ g ∧ Cs w g vs
theorem litB_stays (B n : Nat) (vs : List Value) : ∀ v w w', litB B n vs v w → Goes w w' → litB B n vs v w' := by
  rintro v w w' ⟨g, rfl, hB, h⟩ hb
  exact ⟨g, rfl, hB, h.below hb⟩
theorem obm_of_cs {B g : Nat} {W w : World} {a b c d : Value} (hb : Below B W w) (hs : B ≤ w.heap.size) (hg : B ≤ g) (h : Cs w g [a, b, c, d]) : OBM 4 B W (.slice (some ⟨g, 0, none⟩) 1 1) 1 [a, b, c, d] w := by
  refine ⟨hb, hs, rfl, .inr ⟨g, 1, rfl, hg, h.lt, Nat.le_refl _, by decide, fun j hj => ?_, fun j u hu => h.get j u hu⟩⟩
  have h1 := h.2 j (by simpa using hj)
  exact ⟨by rw [h1.1]; rfl, h1.2⟩
theorem sp_facts (m0 : Nat) (h : m0 ≤ 30) : (m0 + 1 ≤ maxLen ∧ (m0 + 1) * 40 ≤ 140737488355328 ∧ 1 + (m0 + 1) ≤ maxLen ∧ (1 + (m0 + 1)) * 40 ≤ 140737488355328) := by
  unfold maxLen
  refine ⟨by omega, by omega, by omega, by omega⟩
theorem mod_facts (t q : Nat) (hq : 0 < q) : (t : Int).tmod q = ((t % q : Nat) : Int) := by rw [Int.tmod_eq_emod_of_nonneg (by omega)]; omega
theorem deltaR_err {sf : RecT → Nat} {fr i e : Nat} {rs : List RecT} (h : deltaR sf fr rs i = .inl e) : e = 4 ∨ e = 5 := by
  unfold deltaR at h
  split at h
  · injection h with h; exact .inl h.symm
  · split at h
    · split at h
      · split at h
        · injection h with h; exact .inl h.symm
        · cases h
      · injection h with h; exact .inr h.symm
    · injection h with h; exact .inl h.symm
theorem deltasG_errs {sf : RecT → Nat} {rs : List RecT} : ∀ (k fr i e : Nat), deltasG sf rs k fr i = .inl e → e = 4 ∨ e = 5
  | 0, _, _, _, h => by cases h
  | k + 1, fr, i, e, h => by
    unfold deltasG at h
    split at h
    · split at h
      · rename_i he
        injection h with h
        rw [h] at he
        exact deltaR_err he
      · split at h
        · rename_i he
          injection h with h
          rw [h] at he
          exact deltasG_errs _ _ _ _ he
        · cases h
    · cases h
theorem part_err {m : RecT → Bool} {sf : RecT → Nat} {o : ByteArray} {fr e : Nat} {rs : List RecT} (h : partR m sf o fr rs = .inl e) : e = 4 ∨ e = 5 := by
  unfold partR at h
  split at h
  · split at h
    · split at h
      · cases h
      · injection h with h; exact .inr h.symm
    · split at h
      · cases h
      · split at h
        · rename_i he
          injection h with h
          rw [h] at he
          unfold deltasR at he
          split at he
          · rename_i hg
            injection he with he
            rw [he] at hg
            exact deltasG_errs _ _ _ _ hg
          · split at he
            · cases he
            · injection he with he; exact .inl he.symm
        · cases h
  · injection h with h; exact .inl h.symm
theorem part_two {m : RecT → Bool} {sf : RecT → Nat} {o : ByteArray} {fr : Nat} {rs : List RecT} (h : partR m sf o fr rs = .inr (some none)) : 2 ≤ rs.length := by
  unfold partR at h
  split at h
  · split at h
    · split at h
      · injection h with h; cases h
      · cases h
    · split at h
      · rename_i hf
        match rs, hf with
        | [], hf => cases hf
        | [_], hf => cases hf
        | _ :: _ :: t, _ => simp
      · split at h
        · cases h
        · injection h with h; injection h with h; cases h
  · cases h
set_option maxHeartbeats 6400000 in
theorem streamPart_walk (w : World) (hE : Etype w) (z : Int) (hz : (Lit.int .u8 z).wf = true) (y : Int) (hy : (Lit.int .u8 y).wf = true) (A : Option Addr) (n c : Nat) (ds : List ActT) (hV : Acts5 w A n c ds) :
    Calls Tryd.prog 4 #[.int .u8 z, .int .u8 y, .slice A n c] w fun e w' => e = .returned (.bool true) ∧ Below w.heap.size w w' := by
  obtain ⟨mf, hmf⟩ := may_fun
  obtain ⟨sf, hsf⟩ := ser_fun
  have hz8 := u8_wf hz
  have hy8 := u8_wf hy
  obtain ⟨on, rfl⟩ : ∃ on : Nat, z = on := ⟨z.toNat, by omega⟩
  obtain ⟨yn, rfl⟩ : ∃ yn : Nat, y = yn := ⟨y.toNat, by omega⟩
  have OG := Lib.hid (fun w => origin_any on (by omega) w)
  have hob := originB_le on
  generalize originB on = o at *
  have hom : o.size ≤ maxLen := Nat.le_trans hob (by decide)
  have hnm : n ≤ maxLen := Nat.le_trans hV.le hV.max
  have hat := hV.at_
  have UN : Hid (∀ wx, Below w.heap.size w wx → Calls Tryd.prog 9 #[.string o, .slice A n c, .int .i64 30, .bool true] wx fun e w' => ∃ (V : Option Addr) (C : Nat) (rs : List RecT), e = .returned (.slice V rs.length C) ∧ rs.length ≤ 30 ∧ (∀ r ∈ rs, fit9 r) ∧ OBM 4 wx.heap.size wx (.slice V rs.length C) rs.length (flatR rs) w') := Lib.hid (fun wx hb => (under_any o A n c 30 true ds wx (hat.below hb) hnm (by omega) hom).mono (by
    rintro e w' ⟨v, rfl, ho⟩
    obtain ⟨A', c', rfl, -⟩ := ho.slice
    exact ⟨A', c', _, rfl, by rw [undersOf_len]; omega, fit9_unders o hob true ds 30, ho⟩))
  -- the first act's number
  obtain ⟨tt, htt, htt2⟩ : ∃ tt : Nat, tt < 4294967296 ∧ (0 < n → ∃ bA offA, A = some ⟨bA, offA, none⟩ ∧ ∀ wx, Below w.heap.size w wx → wx.cell? ⟨bA, offA + 2, none⟩ = some (.int .u32 (tt : Nat))) := by
    by_cases h0 : 0 < n
    · have hl := hV.len
      obtain ⟨a, ha⟩ : ∃ a, ds[0]? = some a := ⟨_, List.getElem?_eq_getElem (by omega)⟩
      obtain ⟨bA, offA, hA, hbA, hc⟩ := hV.cells h0
      have hcc := (hc 0 a ha).2.2.1
      have hok := u32_wf (hV.ok a (List.mem_of_getElem? ha)).2.2.1
      refine ⟨a.2.2.1.toNat, by omega, fun _ => ⟨bA, offA, hA, fun wx hb => ?_⟩⟩
      rw [(hb.cell (p := ⟨bA, offA + 2, none⟩) hbA), show ((a.2.2.1.toNat : Nat) : Int) = a.2.2.1 by omega]
      simpa using hcc
    · exact ⟨0, by omega, fun h => absurd h h0⟩
  have HTT := Lib.hid htt2
  obtain ⟨K6, hK6⟩ : ∃ q, q = tt % 6 := ⟨_, rfl⟩
  obtain ⟨K3, hK3⟩ : ∃ q, q = tt % 3 := ⟨_, rfl⟩
  have t6 : (tt : Int).tmod 6 = (K6 : Int) := by rw [hK6]; exact mod_facts tt 6 (by decide)
  have t3 : (tt : Int).tmod 3 = (K3 : Int) := by rw [hK3]; exact mod_facts tt 3 (by decide)
  obtain ⟨FR, hFR⟩ : ∃ q, q = yn % 6 := ⟨_, rfl⟩
  have y6 : (yn : Int).tmod 6 = (FR : Int) := by rw [hFR]; exact mod_facts yn 6 (by decide)
  have y7 : IntKind.u32.wrap (FR : Int) = (FR : Int) := by show (FR : Int) % 4294967296 = FR; omega
  have SO : Hid (∀ w, Calls Tryd.prog 10 #[.string o, .int .u32 (K6 : Nat)] w fun e w' => e = .returned (.agg #[.string o, .int .u16 6, .int .u32 9, .string (soaD K6)]) ∧ Below w.heap.size w w') := Lib.hid (fun w => soa9_any o K6 (by omega) w)
  have HFS := Lib.hid (fit9_soa o hob K6)
  have HFS : Hid (fit9 (o, 6, 9, soaD K6)) := HFS
  generalize soaD K6 = D at *
  obtain ⟨VS, hVS⟩ : ∃ v : Value, v = .agg #[.string o, .int .u16 6, .int .u32 9, .string D] := ⟨_, rfl⟩
  have HVS := Lib.hid hVS
  obtain ⟨i0, hi, hz0, hz1, hz2⟩ := info_parts4 rec_info
  have HET := Lib.hid hE
  have HOM := Lib.hid hom
  have HMF := Lib.hid hmf
  have HSF := Lib.hid hsf
  clear hz hy hat hV hnm hz8 hy8 hob hE hmf hom hsf htt htt2 hK6 hK3 hFR hVS
  go_enter Tryd.func4, Tryd.ntmps4
  go_wp2_with fail
  refine (awake09_any _).mono ?_
  rintro e w1 ⟨rfl, hb1⟩
  have HB1 := Lib.hid hb1
  clear hb1
  go_wp2_with fail
  refine (OG.out _).mono ?_
  rintro e w2 ⟨rfl, hb2⟩
  have HB2 := Lib.hid (below_trans HB1.out HB1.out.size hb2)
  clear hb2 OG
  go_wp2_with fail
  refine (UN.out _ HB2.out).mono ?_
  rintro e w4 ⟨V, C, rs0, rfl, hrl, hfit, ho4⟩
  obtain ⟨m0, hm0⟩ : ∃ m, m = rs0.length := ⟨_, rfl⟩
  rw [← hm0] at ho4 hrl ⊢
  have HM0 := Lib.hid hm0
  have HB4 := Lib.hid (below_trans HB2.out HB2.out.size ho4.bel)
  have HO4 := Lib.hid ho4
  have HRL := Lib.hid hrl
  have HFT := Lib.hid hfit
  have HMX := Lib.hid (sp_facts m0 hrl)
  clear ho4 hrl hfit UN hm0
  go_upto_region 5 with fail
  obtain ⟨tb, htb⟩ : ∃ t, t = (decide (0 < n) && decide (0 < K3)) := ⟨_, rfl⟩
  have HTB := Lib.hid htb
  have HN0 : Hid (tb = true → 0 < n) := Lib.hid (fun h => by rw [htb] at h; simp at h; exact h.1)
  clear htb
  go_cut [30] (fun v wc => v = .bool tb ∧ wc = w4)
  case first =>
    have htb := HTB.out
    clear HTB HN0
    by_cases h0 : 0 < n
    · have h0i : (0 : Int) < n := by omega
      obtain ⟨bA, offA, rfl, hkt⟩ := HTT.out h0
      have kt := hkt w4 HB4.out
      by_cases h3 : 0 < K3
      · have h3i : (0 : Int) < K3 := by omega
        replace htb : tb = true := by rw [htb]; simp [h0, h3]
        subst htb
        clear hkt
        go_wp2_with fail
        go_meet
        exact ⟨rfl, rfl⟩
      · have h3i : ¬ (0 : Int) < K3 := by omega
        replace htb : tb = false := by rw [htb]; simp [h3]
        subst htb
        clear hkt
        go_wp2_with fail
        go_meet
        exact ⟨rfl, rfl⟩
    · have h0i : ¬ (0 : Int) < n := by omega
      replace htb : tb = false := by rw [htb]; simp [h0]
      subst htb
      go_wp2_with fail
      go_meet
      exact ⟨rfl, rfl⟩
  case rest =>
  obtain ⟨rfl, hwc⟩ := hcut
  replace hwc := hwc.symm
  subst hwc
  clear HTB
  rename_i Kx hKx Ky hKy
  refine hKy _ _ ?_
  go_cut [8] (fun v wc => ∃ (V : Option Addr) (C : Nat) (rs : List RecT), v = .slice V rs.length C ∧ Hid (rs.length ≤ 40) ∧ Hid (∀ r ∈ rs, fit9 r) ∧ Hid (rs.length ≤ C ∧ C ≤ maxLen) ∧ Hid (Recs wc V rs) ∧ Hid (Below w.heap.size w wc))
  case first =>
    cases tb with
    | false =>
      clear HN0
      go_wp2_with fail
      go_meet
      obtain ⟨A', C', e', g1, g2, -⟩ := HO4.out.slice
      injection e' with e1 e2 e3
      subst e1 e3
      exact ⟨_, _, rs0, by rw [← HM0.out], Lib.hid (by rw [← HM0.out]; have := HRL.out; omega), HFT, Lib.hid (by rw [← HM0.out]; exact ⟨g1, g2⟩), Lib.hid (HO4.out.recs HM0.out.symm), HB4⟩
    | true =>
      have h0 := HN0.out rfl
      have h0i : (0 : Int) < n := by omega
      obtain ⟨bA, offA, rfl, hkt⟩ := HTT.out h0
      have HKT := Lib.hid hkt
      clear HN0 hkt HTT
      go_upto_region 6 with fail
      refine wp_region_expR data_follows (fun x => by simp [putsF, Act.put]; rfl) (fun d x v => Below w2.heap.size w2 v ∧ w4.heap.size ≤ v.heap.size ∧ (d 17 = false → Below w4.heap.size w4 v) ∧ (d 19 = false → x 19 = .slice V m0 C))
        [isX (.string o), isX (.slice (some ⟨bA, offA, none⟩) n c), isX (.pointer (some ⟨bA, offA, none⟩)), isX (.pointer (some ⟨bA, offA + 2, none⟩)), isX (.int .u32 (tt : Nat)), isX (.int .u32 (K6 : Nat)), isX VS, until_ 18 (litB w4.heap.size 1 [.string o, .int .u16 6, .int .u32 9, .string D]), isX (.slice V m0 C), isX (.string o), isX (.slice (some ⟨bA, offA, none⟩) n c), isX (.pointer (some ⟨bA, offA, none⟩)), isX (.pointer (some ⟨bA, offA + 2, none⟩)), isX (.int .u32 (tt : Nat)), isX (.int .u32 (K6 : Nat)), isX VS, until_ 17 (litW 1 [.string o, .int .u16 6, .int .u32 9, .string D]), until_ 18 (ownW 4 w2.heap.size w2 (m0 + 1) (flatR rs0 ++ [.string o, .int .u16 6, .int .u32 9, .string D])), always (ownW 4 w2.heap.size w2 (1 + (m0 + 1)) ([.string o, .int .u16 6, .int .u32 9, .string D] ++ (flatR rs0 ++ [.string o, .int .u16 6, .int .u32 9, .string D]))), always (ownW 4 w2.heap.size w2 (1 + (m0 + 1)) ([.string o, .int .u16 6, .int .u32 9, .string D] ++ (flatR rs0 ++ [.string o, .int .u16 6, .int .u32 9, .string D])))]
        [8, 17, 18] (by kernel_rfl) (by kernel_rfl) (by kernel_rfl) rfl ?_ ⟨HO4.out.bel.drew, Nat.le_refl _, fun _ => (Below.refl _ _).drew, fun _ => rfl⟩ ?_ ?_ ?_
      · repeat (first | exact trivial | refine ⟨by first | exact isX_stays _ | exact until_stays (litB_stays _ _ _) | exact until_stays (litW_stays _ _) | exact until_stays (ownW_stays _ _ _ _ _) | exact always_stays (ownW_stays _ _ _ _ _), ?_⟩)
      · refine ⟨?_, ?_, ?_, ?_, ?_, ?_, ?_, ?_, skipped rfl, ?_, ?_, ?_, ?_, ?_, ?_, ?_, ?_, skipped rfl, skipped rfl, ?_, trivial⟩
        all_goals
          intro _ d x wx hR hdi hsrc hd
          refine ⟨fun _ => ?_, fun hX => by simp at hX⟩
          simp [wordX, isX] at hd ⊢
        · go_simp; exact nextXR _ rfl rfl ⟨hR.1, hR.2.1, fun h => hR.2.2.1 (setD_false h), held_next hR.2.2.2 (by decide)⟩ (Below.refl _ _)
        · go_simp; exact nextXR _ rfl rfl ⟨hR.1, hR.2.1, fun h => hR.2.2.1 (setD_false h), held_next hR.2.2.2 (by decide)⟩ (Below.refl _ _)
        · first
            | (go_simp; exact nextXR _ rfl rfl ⟨hR.1, hR.2.1, fun h => hR.2.2.1 (setD_false h), held_next hR.2.2.2 (by decide)⟩ (Below.refl _ _))
            | (obtain ⟨hd0, hd1⟩ := hd; go_simp; exact nextXR _ rfl rfl ⟨hR.1, hR.2.1, fun h => hR.2.2.1 (setD_false h), held_next hR.2.2.2 (by decide)⟩ (Below.refl _ _))
        · first
            | (go_simp; exact nextXR _ rfl rfl ⟨hR.1, hR.2.1, fun h => hR.2.2.1 (setD_false h), held_next hR.2.2.2 (by decide)⟩ (Below.refl _ _))
            | (obtain ⟨hd0, hd1⟩ := hd; go_simp; exact nextXR _ rfl rfl ⟨hR.1, hR.2.1, fun h => hR.2.2.1 (setD_false h), held_next hR.2.2.2 (by decide)⟩ (Below.refl _ _))
        · have kt := HKT.out wx (below_trans HB2.out HB2.out.size hR.1)
          go_simp; exact nextXR _ rfl rfl ⟨hR.1, hR.2.1, fun h => hR.2.2.1 (setD_false h), held_next hR.2.2.2 (by decide)⟩ (Below.refl _ _)
        · go_simp; exact nextXR _ rfl rfl ⟨hR.1, hR.2.1, fun h => hR.2.2.1 (setD_false h), held_next hR.2.2.2 (by decide)⟩ (Below.refl _ _)
        · try simp [hd]
          go_simp
          go_at_call 10
          refine (SO.out wx).mono ?_
          rintro r wy ⟨rfl, hb⟩
          exact nextXR _ rfl HVS.out.symm ⟨below_trans hR.1 hR.1.size hb, Nat.le_trans hR.2.1 (hb).size, fun h => below_trans (hR.2.2.1 (setD_false h)) hR.2.1 hb, held_next hR.2.2.2 (by decide)⟩ hb
        · have hv : x 6 = VS := by first | exact hd | exact hd.1
          simp only [hv, HVS.out]
          clear hd hv
          go_simp
          exact nextXR _ rfl (until_of ⟨_, rfl, hR.2.1, Cs.new _ _ _ _⟩) ⟨below_trans hR.1 hR.1.size ((Below.refl wx.heap.size wx).alloc (Nat.le_refl _) _), Nat.le_trans hR.2.1 (((Below.refl wx.heap.size wx).alloc (Nat.le_refl _) _)).size, fun h => below_trans (hR.2.2.1 (setD_false h)) hR.2.1 ((Below.refl wx.heap.size wx).alloc (Nat.le_refl _) _), held_next hR.2.2.2 (by decide)⟩ ((Below.refl wx.heap.size wx).alloc (Nat.le_refl _) _)
        · go_simp; exact nextXR _ rfl rfl ⟨hR.1, hR.2.1, fun h => hR.2.2.1 (setD_false h), held_next hR.2.2.2 (by decide)⟩ (Below.refl _ _)
        · go_simp; exact nextXR _ rfl rfl ⟨hR.1, hR.2.1, fun h => hR.2.2.1 (setD_false h), held_next hR.2.2.2 (by decide)⟩ (Below.refl _ _)
        · first
            | (go_simp; exact nextXR _ rfl rfl ⟨hR.1, hR.2.1, fun h => hR.2.2.1 (setD_false h), held_next hR.2.2.2 (by decide)⟩ (Below.refl _ _))
            | (obtain ⟨hd0, hd1⟩ := hd; go_simp; exact nextXR _ rfl rfl ⟨hR.1, hR.2.1, fun h => hR.2.2.1 (setD_false h), held_next hR.2.2.2 (by decide)⟩ (Below.refl _ _))
        · first
            | (go_simp; exact nextXR _ rfl rfl ⟨hR.1, hR.2.1, fun h => hR.2.2.1 (setD_false h), held_next hR.2.2.2 (by decide)⟩ (Below.refl _ _))
            | (obtain ⟨hd0, hd1⟩ := hd; go_simp; exact nextXR _ rfl rfl ⟨hR.1, hR.2.1, fun h => hR.2.2.1 (setD_false h), held_next hR.2.2.2 (by decide)⟩ (Below.refl _ _))
        · have kt := HKT.out wx (below_trans HB2.out HB2.out.size hR.1)
          go_simp; exact nextXR _ rfl rfl ⟨hR.1, hR.2.1, fun h => hR.2.2.1 (setD_false h), held_next hR.2.2.2 (by decide)⟩ (Below.refl _ _)
        · go_simp; exact nextXR _ rfl rfl ⟨hR.1, hR.2.1, fun h => hR.2.2.1 (setD_false h), held_next hR.2.2.2 (by decide)⟩ (Below.refl _ _)
        · try simp [hd]
          go_simp
          go_at_call 10
          refine (SO.out wx).mono ?_
          rintro r wy ⟨rfl, hb⟩
          exact nextXR _ rfl HVS.out.symm ⟨below_trans hR.1 hR.1.size hb, Nat.le_trans hR.2.1 (hb).size, fun h => below_trans (hR.2.2.1 (setD_false h)) hR.2.1 hb, held_next hR.2.2.2 (by decide)⟩ hb
        · have hv : x 15 = VS := by first | exact hd | exact hd.1
          simp only [hv, HVS.out]
          clear hd hv
          go_simp
          exact nextXR _ rfl (until_of (litW_new 1 _ _ _ _)) ⟨below_trans hR.1 hR.1.size ((Below.refl wx.heap.size wx).alloc (Nat.le_refl _) _), Nat.le_trans hR.2.1 (((Below.refl wx.heap.size wx).alloc (Nat.le_refl _) _)).size, fun h => below_trans (hR.2.2.1 (setD_false h)) hR.2.1 ((Below.refl wx.heap.size wx).alloc (Nat.le_refl _) _), held_next hR.2.2.2 (by decide)⟩ ((Below.refl wx.heap.size wx).alloc (Nat.le_refl _) _)
        · have hd18 : (ownW 4 w2.heap.size w2 (1 + (m0 + 1)) ([.string o, .int .u16 6, .int .u32 9, .string D] ++ (flatR rs0 ++ [.string o, .int .u16 6, .int .u32 9, .string D]))) (x 18) wx := by first | exact hd | exact hd.1
          go_simp; exact nextXR _ rfl hd18 ⟨hR.1, hR.2.1, fun h => hR.2.2.1 (setD_false h), held_self⟩ (Below.refl _ _)
      · refine ⟨unskipped rfl, unskipped rfl, unskipped rfl, unskipped rfl, unskipped rfl, unskipped rfl, unskipped rfl, unskipped rfl, ?_, unskipped rfl, unskipped rfl, unskipped rfl, unskipped rfl, unskipped rfl, unskipped rfl, unskipped rfl, unskipped rfl, ?_, ?_, unskipped rfl, trivial⟩
        · intro _ d x wx hR hdi hcl hsrc hd
          refine ⟨fun _ => ?_, fun hX => by simp at hX⟩
          have d19 : d 19 = false := by
            cases e : d 19 with
            | false => rfl
            | true => have := hcl.reach 20 8 19 (by kernel_rfl) e; rw [hdi] at this; cases this
          have hx19 := hR.2.2.2 d19
          dsimp only
          rw [hx19]
          go_simp
          refine nextKR _ rfl rfl ⟨hR.1, hR.2.1, fun h => hR.2.2.1 (setD_false h), held_next hR.2.2.2 (by decide)⟩ ?_
          exact ⟨fun _ _ h => h, fun _ _ h => h, fun _ _ h => h, fun _ _ h => h, fun _ _ h => h, fun _ _ h => h, fun _ _ h => h, fun _ _ h => until_mono h, fun h => absurd rfl h, fun _ _ h => h, fun _ _ h => h, fun _ _ h => h, fun _ _ h => h, fun _ _ h => h, fun _ _ h => h, fun _ _ h => h, fun _ _ h => until_mono h, fun _ _ h => until_mono h, fun _ _ h => h, fun _ _ h => h, trivial⟩
        · intro _ d x wx hR hdi hcl hsrc hd
          refine ⟨fun _ => ?_, fun hX => by simp at hX⟩
          have d8 : d 8 = true := SrcX.reach (K := 17) hcl hsrc rfl 20 8 (by decide) (by kernel_rfl)
          have d16 : d 16 = true := SrcX.reach (K := 17) hcl hsrc rfl 20 16 (by decide) (by kernel_rfl)
          simp only [DoneX] at hd
          obtain ⟨-, -, -, -, -, -, -, -, h8, -, -, -, -, -, -, -, h16, -⟩ := hd
          have hx8 : x 8 = .slice V m0 C := h8 d8
          obtain ⟨g16, hx16, hc16⟩ : litW 1 [.string o, .int .u16 6, .int .u32 9, .string D] (x 16) wx := h16 d16 hdi
          have hb4 := hR.2.2.1 hdi
          have hoV := HO4.out.keep hb4 (Nat.le_refl _)
          dsimp only
          rw [hx8, hx16]
          refine oper_append_obm _ _ _ _ rfl 32 i0 _ 40 Tryd.underlying26 hi hz0 hz1 hz2 rfl hoV rfl rfl
            (Src.ofSlice _ Tryd.underlying26 ⟨g16, 0, none⟩ 1 1 [.string o, .int .u16 6, .int .u32 9, .string D] rfl (fun j u hu => by rw [Addr.add_lit, Nat.zero_add]; exact hc16.get j u hu) (recCells_one (o, 6, 9, D))) rfl HMX.out.1 HMX.out.2.1 ?_
          intro v2 w' q1 q2 q3 q4
          have HKEEP7 : ∀ v, litB w4.heap.size 1 [.string o, .int .u16 6, .int .u32 9, .string D] v wx → litB w4.heap.size 1 [.string o, .int .u16 6, .int .u32 9, .string D] v w' := fun v h => by
            obtain ⟨g7, hv7, hg7, hc7⟩ := h
            exact ⟨g7, hv7, hg7, hc7.block (q3 g7 hc7.lt (fun e => by have := (HO4.out.lt g7 e.symm).2; omega)) q2⟩
          refine nextKR v2 rfl (until_of q1) ⟨q1.bel, Nat.le_trans hR.2.1 q2, fun h => (by rw [setD_self] at h; cases h), held_next hR.2.2.2 (by decide)⟩ ?_
          exact ⟨fun _ _ h => h, fun _ _ h => h, fun _ _ h => h, fun _ _ h => h, fun _ _ h => h, fun _ _ h => h, fun _ _ h => h, fun _ _ h hk => HKEEP7 _ (h (setD_false hk)), fun _ _ h => h, fun _ _ h => h, fun _ _ h => h, fun _ _ h => h, fun _ _ h => h, fun _ _ h => h, fun _ _ h => h, fun _ _ h => h, fun _ _ _ => until_self, fun h => absurd rfl h, fun _ h18 _ => (by have := hcl.reach 20 17 18 (by kernel_rfl) h18; rw [hdi] at this; cases this), fun _ h19 _ => (by have := hcl.reach 20 17 19 (by kernel_rfl) h19; rw [hdi] at this; cases this), trivial⟩
        · intro _ d x wx hR hdi hcl hsrc hd
          refine ⟨fun _ => ?_, fun hX => by simp at hX⟩
          have d7 : d 7 = true := SrcX.reach (K := 18) hcl hsrc rfl 20 7 (by decide) (by kernel_rfl)
          have d17 : d 17 = true := SrcX.reach (K := 18) hcl hsrc rfl 20 17 (by decide) (by kernel_rfl)
          simp only [DoneX] at hd
          obtain ⟨-, -, -, -, -, -, -, h7, -, -, -, -, -, -, -, -, -, h17, -⟩ := hd
          obtain ⟨g7, hx7, hg7, hc7⟩ : litB w4.heap.size 1 [.string o, .int .u16 6, .int .u32 9, .string D] (x 7) wx := h7 d7 hdi
          have ho17 : OBM 4 w2.heap.size w2 (x 17) (m0 + 1) (flatR rs0 ++ [.string o, .int .u16 6, .int .u32 9, .string D]) wx := h17 d17 hdi
          obtain ⟨A17, C17, hx17, g1, g2, g3⟩ := ho17.slice
          rw [hx17] at ho17
          have ho7 : OBM 4 w2.heap.size w2 (.slice (some ⟨g7, 0, none⟩) 1 1) 1 [.string o, .int .u16 6, .int .u32 9, .string D] wx := obm_of_cs hR.1 hR.1.size (Nat.le_trans HO4.out.bel.size hg7) hc7
          have hS : Src Tryd.prog 4 26 (.slice A17 (m0 + 1) C17) (m0 + 1) (flatR rs0 ++ [.string o, .int .u16 6, .int .u32 9, .string D]) wx := Sl.srcM Tryd.underlying26 ho17.sl (fun e => (g3 e).1) (fun u hu => by
            rcases List.mem_append.1 hu with h | h
            · exact flatR_one rs0 u h
            · exact recCells_one (o, 6, 9, D) u h)
          dsimp only
          rw [hx7, hx17]
          refine oper_append_obm _ _ _ _ rfl 32 i0 _ 40 Tryd.underlying26 hi hz0 hz1 hz2 rfl ho7 rfl rfl hS ho17.len HMX.out.2.2.1 HMX.out.2.2.2 ?_
          intro v2 w' q1 q2 q3 q4
          refine nextKR v2 rfl q1 ⟨q1.bel, Nat.le_trans hR.2.1 q2, fun h => (by rw [setD_ne d (by decide), d17] at h; cases h), held_next hR.2.2.2 (by decide)⟩ ?_
          exact ⟨fun _ _ h => h, fun _ _ h => h, fun _ _ h => h, fun _ _ h => h, fun _ _ h => h, fun _ _ h => h, fun _ _ h => h, fun _ _ _ => until_self, fun _ _ h => h, fun _ _ h => h, fun _ _ h => h, fun _ _ h => h, fun _ _ h => h, fun _ _ h => h, fun _ _ h => h, fun _ _ h => h, fun _ h16 h hk => (by rw [setD_ne d (by decide)] at hk; rw [d17] at hk; cases hk), fun _ _ _ => until_self, fun h => absurd rfl h, fun _ h19 _ => (by have := hcl.reach 20 18 19 (by kernel_rfl) h19; rw [hdi] at this; cases this), trivial⟩
      · intro x wy d hall hR hx
        simp only [AllX] at hx
        obtain ⟨-, -, -, -, -, -, -, -, -, -, -, -, -, -, -, -, -, -, -, h19, -⟩ := hx
        have Q6 : OBM 4 w2.heap.size w2 (x 19) (1 + (m0 + 1)) ([.string o, .int .u16 6, .int .u32 9, .string D] ++ (flatR rs0 ++ [.string o, .int .u16 6, .int .u32 9, .string D])) wy := h19
        have Q7 := Q6.out HB2.out.size HB2.out
        have hlen : ((o, (6 : Int), (9 : Int), D) :: (rs0 ++ [(o, (6 : Int), (9 : Int), D)])).length = 1 + (m0 + 1) := by simp [HM0.out]; omega
        have hfl : [.string o, .int .u16 6, .int .u32 9, .string D] ++ (flatR rs0 ++ [.string o, .int .u16 6, .int .u32 9, .string D]) = flatR ((o, (6 : Int), (9 : Int), D) :: (rs0 ++ [(o, (6 : Int), (9 : Int), D)])) := by
          unfold flatR
          simp [recCells]
        rw [hfl] at Q7
        clear Q6 h19 hfl
        generalize x 19 = v6 at *
        obtain ⟨A', C', rfl, g1, g2, -⟩ := Q7.slice
        go_wp2_with fail
        go_meet
        refine ⟨A', C', (o, 6, 9, D) :: (rs0 ++ [(o, 6, 9, D)]), by rw [hlen], Lib.hid (by rw [hlen]; have := HRL.out; omega), Lib.hid ?_, Lib.hid (by rw [hlen]; exact ⟨g1, g2⟩), Lib.hid (Q7.recs hlen), Lib.hid Q7.bel⟩
        intro r hr
        simp only [List.mem_cons, List.mem_append, List.not_mem_nil, or_false] at hr
        rcases hr with rfl | hr | rfl
        · exact HFS.out
        · exact HFT.out r hr
        · exact HFS.out

  case rest =>
  obtain ⟨VS2, CS, rs, rfl, HRL5, HFT5, HCS, HREC, HB5⟩ := hcut
  obtain ⟨m, hm⟩ : ∃ m, m = rs.length := ⟨_, rfl⟩
  rw [← hm] at HRL5 HCS ⊢
  have HM := Lib.hid hm
  have hn5 : m ≤ 1000 := Nat.le_trans HRL5.out (by decide)
  have hz5 : ∀ r ∈ rs, r.1.size ≤ maxLen := fun r hr => Nat.le_trans (HFT5.out r hr).2.1 (by decide)
  have hm5 : ∀ r ∈ rs, ∀ w, Calls Tryd.prog 34 #[recV r] w fun e w' => e = .returned (.bool (mf r)) ∧ Below w.heap.size w w' := fun r hr => HMF.out r (HFT5.out r hr)
  have PA := Lib.hid (part_any mf sf o FR VS2 m CS rs wc HREC.out hm.symm hn5 HCS.out.1 HCS.out.2 HOM.out hz5 hm5 (fun r hr hs w => serial_any HSF.out r hs (Nat.le_trans (HFT5.out r hr).2.2 (by decide)) w))
  have P9 := Lib.hid (fun (wx : World) (hb : Below wc.heap.size wc wx) => part9_any mf sf o FR VS2 m CS rs wx (HREC.out.below hb) hm.symm hn5 HCS.out.1 HOM.out hz5 hm5 (fun r hr hs w => ser9_any HSF.out r hs (Nat.le_trans (HFT5.out r hr).2.2 (by decide)) w))
  clear hm hz5 hm5 HMF SO hn5 HTT HN0 t6 t3
  go_wp2_with fail
  refine PA.out.mono ?_
  rintro e wd (⟨er, hp, rfl, hbd⟩ | ⟨hp, rfl, hbd⟩ | ⟨hp, A', c', rfl, ho⟩ | ⟨xs, A', c', hp, rfl, ho, -⟩)
  · have HBD := Lib.hid hbd
    have her := part_err hp
    have HP := Lib.hid hp
    clear hp hbd PA
    rcases her with rfl | rfl
    · skip
      have P9 : Hid (∀ wx, Below wc.heap.size wc wx → Calls Tryd.prog 16 #[.string o, .int .u32 (FR : Nat), .slice VS2 m CS] wx fun e w' => e = .returned (.tuple #[.int .i64 4, .int .i64 0]) ∧ Below wx.heap.size wx w') := Lib.hid (fun wx hb => by
        have h := P9.out wx hb
        rw [HP.out] at h
        exact h)
      have hZ := Cs.new wd #[.bool false, .slice none 0 0, .slice none 0 0] 48 [.bool false, .slice none 0 0, .slice none 0 0]
      have HTH := Lib.hid (hZ.there 3 rfl)
      have hM := hZ.mid [.bool false, .slice none 0 0, .slice none 0 0] rfl
      have hbZ : Below wc.heap.size wc ((wd.alloc (.cells #[.bool false, .slice none 0 0, .slice none 0 0] 48)).setCells wd.heap.size 0 [.bool false, .slice none 0 0, .slice none 0 0]) := below_setCells' HBD.out.size _ 0 (HBD.out.alloc HBD.out.size _)
      have H6 := Lib.hid (And.intro hM hbZ)
      clear hZ hM hbZ
      go_upto_region 8 with (first | refine wpList_store_mid rfl 48 _ _ rfl wd.heap.size 0 #[.bool false, .slice none 0 0, .slice none 0 0] rfl rfl HTH.out (by kernel_rfl) (by simp [Value.oneCell']) ?_)
      obtain ⟨hM, hbZ⟩ := H6.out
      generalize (wd.alloc (.cells #[.bool false, .slice none 0 0, .slice none 0 0] 48)).setCells wd.heap.size 0 [.bool false, .slice none 0 0, .slice none 0 0] = w6 at *
      obtain ⟨q, hq⟩ : ∃ g, g = wd.heap.size := ⟨_, rfl⟩
      rw [← hq] at hM ⊢
      have HM6 := Lib.hid hM
      have HB6 := Lib.hid hbZ
      clear hM hbZ hq H6 HTH
      go_wp2_with fail
      refine (P9.out _ HB6.out).mono ?_
      rintro e w7 ⟨rfl, hb7⟩
      have HB7 := Lib.hid (below_trans HB5.out HB5.out.size (below_trans HB6.out HB6.out.size hb7))
      have hc7 := HM6.out.below hb7
      have HC7 := Lib.hid hc7
      clear hb7 P9
      have NE := Lib.hid (number_errno 4 w7 (HET.out.keep (Nat.le_refl _) HB7.out))
      clear hc7
      go_wp2_with fail
      refine NE.out.mono ?_
      rintro e w8 ⟨rfl, hb8⟩
      have HB8 := Lib.hid (below_trans HB7.out HB7.out.size hb8)
      have hc8 := HC7.out.below hb8
      have k0 := hc8.get 0 _
      have k1 := hc8.get 1 _
      have k2 := hc8.get 2 _
      clear hb8 NE hc8
      go_wp2_with fail
      go_ret
      exact ⟨rfl, HB8.out⟩
    · skip
      have P9 : Hid (∀ wx, Below wc.heap.size wc wx → Calls Tryd.prog 16 #[.string o, .int .u32 (FR : Nat), .slice VS2 m CS] wx fun e w' => e = .returned (.tuple #[.int .i64 5, .int .i64 0]) ∧ Below wx.heap.size wx w') := Lib.hid (fun wx hb => by
        have h := P9.out wx hb
        rw [HP.out] at h
        exact h)
      have hZ := Cs.new wd #[.bool false, .slice none 0 0, .slice none 0 0] 48 [.bool false, .slice none 0 0, .slice none 0 0]
      have HTH := Lib.hid (hZ.there 3 rfl)
      have hM := hZ.mid [.bool false, .slice none 0 0, .slice none 0 0] rfl
      have hbZ : Below wc.heap.size wc ((wd.alloc (.cells #[.bool false, .slice none 0 0, .slice none 0 0] 48)).setCells wd.heap.size 0 [.bool false, .slice none 0 0, .slice none 0 0]) := below_setCells' HBD.out.size _ 0 (HBD.out.alloc HBD.out.size _)
      have H6 := Lib.hid (And.intro hM hbZ)
      clear hZ hM hbZ
      go_upto_region 8 with (first | refine wpList_store_mid rfl 48 _ _ rfl wd.heap.size 0 #[.bool false, .slice none 0 0, .slice none 0 0] rfl rfl HTH.out (by kernel_rfl) (by simp [Value.oneCell']) ?_)
      obtain ⟨hM, hbZ⟩ := H6.out
      generalize (wd.alloc (.cells #[.bool false, .slice none 0 0, .slice none 0 0] 48)).setCells wd.heap.size 0 [.bool false, .slice none 0 0, .slice none 0 0] = w6 at *
      obtain ⟨q, hq⟩ : ∃ g, g = wd.heap.size := ⟨_, rfl⟩
      rw [← hq] at hM ⊢
      have HM6 := Lib.hid hM
      have HB6 := Lib.hid hbZ
      clear hM hbZ hq H6 HTH
      go_wp2_with fail
      refine (P9.out _ HB6.out).mono ?_
      rintro e w7 ⟨rfl, hb7⟩
      have HB7 := Lib.hid (below_trans HB5.out HB5.out.size (below_trans HB6.out HB6.out.size hb7))
      have hc7 := HM6.out.below hb7
      have HC7 := Lib.hid hc7
      clear hb7 P9
      have NE := Lib.hid (number_errno 5 w7 (HET.out.keep (Nat.le_refl _) HB7.out))
      clear hc7
      go_wp2_with fail
      refine NE.out.mono ?_
      rintro e w8 ⟨rfl, hb8⟩
      have HB8 := Lib.hid (below_trans HB7.out HB7.out.size hb8)
      have hc8 := HC7.out.below hb8
      have k0 := hc8.get 0 _
      have k1 := hc8.get 1 _
      have k2 := hc8.get 2 _
      clear hb8 NE hc8
      go_wp2_with fail
      go_ret
      exact ⟨rfl, HB8.out⟩
  · have HBD := Lib.hid hbd
    have HP := Lib.hid hp
    clear hp hbd PA
    have P9 : Hid (∀ wx, Below wc.heap.size wc wx → Calls Tryd.prog 16 #[.string o, .int .u32 (FR : Nat), .slice VS2 m CS] wx fun e w' => e = .returned (.tuple #[.int .i64 0, .int .i64 (-2)]) ∧ Below wx.heap.size wx w') := Lib.hid (fun wx hb => by
      have h := P9.out wx hb
      rw [HP.out] at h
      exact h)
    have hZ := Cs.new wd #[.bool false, .slice none 0 0, .slice none 0 0] 48 [.bool false, .slice none 0 0, .slice none 0 0]
    have HTH := Lib.hid (hZ.there 3 rfl)
    have hM := hZ.mid [.bool true, .slice none 0 0, .slice none 0 0] rfl
    have hbZ : Below wc.heap.size wc ((wd.alloc (.cells #[.bool false, .slice none 0 0, .slice none 0 0] 48)).setCells wd.heap.size 0 [.bool true, .slice none 0 0, .slice none 0 0]) := below_setCells' HBD.out.size _ 0 (HBD.out.alloc HBD.out.size _)
    have H6 := Lib.hid (And.intro hM hbZ)
    clear hZ hM hbZ
    go_upto_region 8 with (first | refine wpList_store_mid rfl 48 _ _ rfl wd.heap.size 0 #[.bool true, .slice none 0 0, .slice none 0 0] rfl rfl HTH.out (by kernel_rfl) (by simp [Value.oneCell']) ?_)
    obtain ⟨hM, hbZ⟩ := H6.out
    generalize (wd.alloc (.cells #[.bool false, .slice none 0 0, .slice none 0 0] 48)).setCells wd.heap.size 0 [.bool true, .slice none 0 0, .slice none 0 0] = w6 at *
    obtain ⟨q, hq⟩ : ∃ g, g = wd.heap.size := ⟨_, rfl⟩
    rw [← hq] at hM ⊢
    have HM6 := Lib.hid hM
    have HB6 := Lib.hid hbZ
    clear hM hbZ hq H6 HTH
    go_wp2_with fail
    refine (P9.out _ HB6.out).mono ?_
    rintro e w7 ⟨rfl, hb7⟩
    have HB7 := Lib.hid (below_trans HB5.out HB5.out.size (below_trans HB6.out HB6.out.size hb7))
    have hc7 := HM6.out.below hb7
    have HC7 := Lib.hid hc7
    clear hb7 P9
    have k0 := hc7.get 0 _
    have k1 := hc7.get 1 _
    have k2 := hc7.get 2 _
    clear hc7
    go_wp2_with fail
    go_ret
    exact ⟨rfl, HB7.out⟩
  · have HBD := Lib.hid ho.bel
    have HP := Lib.hid hp
    have h2 := part_two hp
    rw [← HM.out] at h2 ⊢
    obtain ⟨L, hL⟩ : ∃ L, L = m - 1 := ⟨_, rfl⟩
    have hL0 : (0 : Int) < L := by omega
    have hL0' : 0 < L := by omega
    rw [← hL]
    clear hp ho PA h2 hL
    have P9 : Hid (∀ wx, Below wc.heap.size wc wx → Calls Tryd.prog 16 #[.string o, .int .u32 (FR : Nat), .slice VS2 m CS] wx fun e w' => e = .returned (.tuple #[.int .i64 0, .int .i64 (-1)]) ∧ Below wx.heap.size wx w') := Lib.hid (fun wx hb => by
      have h := P9.out wx hb
      rw [HP.out] at h
      exact h)
    have hZ := Cs.new wd #[.bool false, .slice none 0 0, .slice none 0 0] 48 [.bool false, .slice none 0 0, .slice none 0 0]
    have HTH := Lib.hid (hZ.there 3 rfl)
    have hM := hZ.mid [.bool false, .slice A' L c', .slice none 0 0] rfl
    have hbZ : Below wc.heap.size wc ((wd.alloc (.cells #[.bool false, .slice none 0 0, .slice none 0 0] 48)).setCells wd.heap.size 0 [.bool false, .slice A' L c', .slice none 0 0]) := below_setCells' HBD.out.size _ 0 (HBD.out.alloc HBD.out.size _)
    have H6 := Lib.hid (And.intro hM hbZ)
    clear hZ hM hbZ
    go_upto_region 8 with (first | refine wpList_store_mid rfl 48 _ _ rfl wd.heap.size 0 #[.bool false, .slice A' L c', .slice none 0 0] rfl rfl HTH.out (by kernel_rfl) (by simp [Value.oneCell']) ?_)
    obtain ⟨hM, hbZ⟩ := H6.out
    generalize (wd.alloc (.cells #[.bool false, .slice none 0 0, .slice none 0 0] 48)).setCells wd.heap.size 0 [.bool false, .slice A' L c', .slice none 0 0] = w6 at *
    obtain ⟨q, hq⟩ : ∃ g, g = wd.heap.size := ⟨_, rfl⟩
    rw [← hq] at hM ⊢
    have HM6 := Lib.hid hM
    have HB6 := Lib.hid hbZ
    clear hM hbZ hq H6 HTH
    go_wp2_with fail
    refine (P9.out _ HB6.out).mono ?_
    rintro e w7 ⟨rfl, hb7⟩
    have HB7 := Lib.hid (below_trans HB5.out HB5.out.size (below_trans HB6.out HB6.out.size hb7))
    have hc7 := HM6.out.below hb7
    have HC7 := Lib.hid hc7
    clear hb7 P9
    have k0 := hc7.get 0 _
    have k1 := hc7.get 1 _
    have k2 := hc7.get 2 _
    clear hc7
    go_wp2_with fail
    go_ret
    exact ⟨rfl, HB7.out⟩
  · have HBD := Lib.hid ho.bel
    have HP := Lib.hid hp
    obtain ⟨cn, hcn⟩ : ∃ q, q = xs.length := ⟨_, rfl⟩
    have HPN := Lib.hid (show partN (partR mf sf o FR rs) = (0, (cn : Int)) by rw [HP.out]; show ((0 : Int), ((xs.map (·.1)).length : Int)) = _; rw [List.length_map, hcn])
    rw [← hcn]
    have g1 : ((cn : Int) == -2) = false := by rw [beq_eq_false_iff_ne]; omega
    have g2 : ((cn : Int) == -1) = false := by rw [beq_eq_false_iff_ne]; omega
    have g3 : ((cn : Int) == cn) = true := by simp
    clear hp ho PA hcn
    have P9 : Hid (∀ wx, Below wc.heap.size wc wx → Calls Tryd.prog 16 #[.string o, .int .u32 (FR : Nat), .slice VS2 m CS] wx fun e w' => e = .returned (.tuple #[.int .i64 0, .int .i64 (cn : Nat)]) ∧ Below wx.heap.size wx w') := Lib.hid (fun wx hb => by
      have h := P9.out wx hb
      rw [HPN.out] at h
      exact h)
    by_cases h0 : cn = 0
    · subst h0
      have hZ := Cs.new wd #[.bool false, .slice none 0 0, .slice none 0 0] 48 [.bool false, .slice none 0 0, .slice none 0 0]
      have HTH := Lib.hid (hZ.there 3 rfl)
      have hM := hZ.mid [.bool false, .slice none 0 0, .slice A' 0 c'] rfl
      have hbZ : Below wc.heap.size wc ((wd.alloc (.cells #[.bool false, .slice none 0 0, .slice none 0 0] 48)).setCells wd.heap.size 0 [.bool false, .slice none 0 0, .slice A' 0 c']) := below_setCells' HBD.out.size _ 0 (HBD.out.alloc HBD.out.size _)
      have H6 := Lib.hid (And.intro hM hbZ)
      clear hZ hM hbZ
      go_upto_region 8 with (first | refine wpList_store_mid rfl 48 _ _ rfl wd.heap.size 0 #[.bool false, .slice none 0 0, .slice A' 0 c'] rfl rfl HTH.out (by kernel_rfl) (by simp [Value.oneCell']) ?_)
      obtain ⟨hM, hbZ⟩ := H6.out
      generalize (wd.alloc (.cells #[.bool false, .slice none 0 0, .slice none 0 0] 48)).setCells wd.heap.size 0 [.bool false, .slice none 0 0, .slice A' 0 c'] = w6 at *
      obtain ⟨q, hq⟩ : ∃ g, g = wd.heap.size := ⟨_, rfl⟩
      rw [← hq] at hM ⊢
      have HM6 := Lib.hid hM
      have HB6 := Lib.hid hbZ
      clear hM hbZ hq H6 HTH
      go_wp2_with fail
      refine (P9.out _ HB6.out).mono ?_
      rintro e w7 ⟨rfl, hb7⟩
      have HB7 := Lib.hid (below_trans HB5.out HB5.out.size (below_trans HB6.out HB6.out.size hb7))
      have hc7 := HM6.out.below hb7
      have HC7 := Lib.hid hc7
      clear hb7 P9
      have k0 := hc7.get 0 _
      have k1 := hc7.get 1 _
      have k2 := hc7.get 2 _
      clear hc7
      go_wp2_with fail
      go_ret
      exact ⟨rfl, HB7.out⟩
    · have hcp : (0 : Int) < cn := by omega
      have hcp' : 0 < cn := by omega
      have hcp2 : ¬ (cn : Int) < 0 := by omega
      have hcp3 : ¬ (cn : Int) ≤ 0 := by omega
      clear h0
      have hZ := Cs.new wd #[.bool false, .slice none 0 0, .slice none 0 0] 48 [.bool false, .slice none 0 0, .slice none 0 0]
      have HTH := Lib.hid (hZ.there 3 rfl)
      have hM := hZ.mid [.bool false, .slice none 0 0, .slice A' cn c'] rfl
      have hbZ : Below wc.heap.size wc ((wd.alloc (.cells #[.bool false, .slice none 0 0, .slice none 0 0] 48)).setCells wd.heap.size 0 [.bool false, .slice none 0 0, .slice A' cn c']) := below_setCells' HBD.out.size _ 0 (HBD.out.alloc HBD.out.size _)
      have H6 := Lib.hid (And.intro hM hbZ)
      clear hZ hM hbZ
      go_upto_region 8 with (first | refine wpList_store_mid rfl 48 _ _ rfl wd.heap.size 0 #[.bool false, .slice none 0 0, .slice A' cn c'] rfl rfl HTH.out (by kernel_rfl) (by simp [Value.oneCell']) ?_)
      obtain ⟨hM, hbZ⟩ := H6.out
      generalize (wd.alloc (.cells #[.bool false, .slice none 0 0, .slice none 0 0] 48)).setCells wd.heap.size 0 [.bool false, .slice none 0 0, .slice A' cn c'] = w6 at *
      obtain ⟨q, hq⟩ : ∃ g, g = wd.heap.size := ⟨_, rfl⟩
      rw [← hq] at hM ⊢
      have HM6 := Lib.hid hM
      have HB6 := Lib.hid hbZ
      clear hM hbZ hq H6 HTH
      go_wp2_with fail
      refine (P9.out _ HB6.out).mono ?_
      rintro e w7 ⟨rfl, hb7⟩
      have HB7 := Lib.hid (below_trans HB5.out HB5.out.size (below_trans HB6.out HB6.out.size hb7))
      have hc7 := HM6.out.below hb7
      have HC7 := Lib.hid hc7
      clear hb7 P9
      have k0 := hc7.get 0 _
      have k1 := hc7.get 1 _
      have k2 := hc7.get 2 _
      clear hc7
      go_wp2_with fail
      go_ret
      exact ⟨rfl, HB7.out⟩
end Go.Proofs.YtkpjehplchdmgaaDoor
