/- Texts that walks stand on, one behind the other. -/
import Derived.Test.YtkpjehplchdmgaaDoorMgSB
import Derived.Outline
import Derived.Test.YtkpjehplchdmgaaDoorMgSA
import Derived.Test.YtkpjehplchdmgaaDoorNameW
import Derived.Test.YtkpjehplchdmgaaDoorRecA
import Derived.Test.YtkpjehplchdmgaaDoorView
import Derived.Test.YtkpjehplchdmgaaDoorOb
import Derived.Test.YtkpjehplchdmgaaDoorCs
namespace Go.Proofs.YtkpjehplchdmgaaDoor
open Go.RowKit
set_option linter.unusedVariables false
set_option linter.unusedSimpArgs false
set_option maxRecDepth 20000
attribute [local simp] putsF isV wordOf Deps Region.binds Region.wanted Act.put wantedX isB
/-- Where a delta begins, its second SOA, the place behind it. -/
abbrev DTrip := Nat × Nat × Nat
def rAt (rs : List RecT) (i : Nat) : RecT := rs[i]?.getD (⟨#[]⟩, 0, 0, ⟨#[]⟩)
theorem rAt_of {rs : List RecT} {i : Nat} {r : RecT} (h : rs[i]? = some r) : rAt rs i = r := by unfold rAt; rw [h]; rfl
def deltasG (sf : RecT → Nat) (rs : List RecT) : Nat → Nat → Nat → Nat ⊕ List DTrip
  | 0, _, _ => .inr []
  | k + 1, fr, i => if i < rs.length - 1 then (match deltaR sf fr rs i with
      | .inl e => .inl e
      | .inr (t, b) => (match deltasG sf rs k (sf (rAt rs t)) b with
        | .inl e => .inl e
        | .inr ds => .inr ((i, t, b) :: ds))) else .inr []
def preD (done : List DTrip) : Nat ⊕ List DTrip → Nat ⊕ List DTrip
  | .inl e => .inl e
  | .inr ds => .inr (done ++ ds)
theorem deltasG_stop {sf : RecT → Nat} {rs : List RecT} {k fr i : Nat} (h : ¬ i < rs.length - 1) : deltasG sf rs k fr i = .inr [] := by
  cases k with
  | zero => rfl
  | succ k => unfold deltasG; rw [if_neg h]
theorem deltasG_err {sf : RecT → Nat} {rs : List RecT} {k fr i e : Nat} (h : i < rs.length - 1) (hk : 0 < k) (he : deltaR sf fr rs i = .inl e) : deltasG sf rs k fr i = .inl e := by
  cases k with
  | zero => omega
  | succ k => unfold deltasG; rw [if_pos h, he]
theorem deltasG_next {sf : RecT → Nat} {rs : List RecT} {k fr i t b : Nat} (done : List DTrip) (h : i < rs.length - 1) (he : deltaR sf fr rs i = .inr (t, b)) : preD done (deltasG sf rs (k + 1) fr i) = preD (done ++ [(i, t, b)]) (deltasG sf rs k (sf (rAt rs t)) b) := by
  conv => lhs; unfold deltasG
  rw [if_pos h, he]
  simp only
  cases deltasG sf rs k (sf (rAt rs t)) b with
  | inl e => rfl
  | inr ds => simp [preD]
def endOk (rs : List RecT) (ts : List DTrip) : Bool := match ts.getLast? with
  | none => false
  | some x => eqB (rAt rs (rs.length - 1)) (rAt rs 0) && eqB (rAt rs x.2.1) (rAt rs 0)
/-- The deltas, or why there are none. -/
def deltasR (sf : RecT → Nat) (fr : Nat) (rs : List RecT) : Nat ⊕ List DTrip := match deltasG sf rs rs.length fr 1 with
  | .inl e => .inl e
  | .inr ts => if endOk rs ts = true then .inr ts else .inl 4
/-- A delta: its places, the slices that it holds. -/
abbrev DT := DTrip × Value × Value
def delX (rs : List RecT) (x : DT) : List Value := delC (rAt rs x.1.1) (rAt rs x.1.2.1) x.2.1 x.2.2
def flatD (rs : List RecT) (xs : List DT) : List Value := xs.flatMap (delX rs)
theorem flatD_len (rs : List RecT) (xs : List DT) : (flatD rs xs).length = xs.length * 10 := by
  unfold flatD
  induction xs with
  | nil => rfl
  | cons x xs ih => rw [List.flatMap_cons, List.length_append, ih, List.length_cons, show (delX rs x).length = 10 from rfl]; omega
theorem flatD_snoc (rs : List RecT) (xs : List DT) (x : DT) : flatD rs (xs ++ [x]) = flatD rs xs ++ delX rs x := by unfold flatD; simp
structure DOk (W : World) (rs : List RecT) (x : DT) (w : World) : Prop where
  gone : OBM 4 W.heap.size W x.2.1 (x.1.2.1 - (x.1.1 + 1)) (flatR ((rs.drop (x.1.1 + 1)).take (x.1.2.1 - (x.1.1 + 1)))) w
  new : OBM 4 W.heap.size W x.2.2 (x.1.2.2 - (x.1.2.1 + 1)) (flatR ((rs.drop (x.1.2.1 + 1)).take (x.1.2.2 - (x.1.2.1 + 1)))) w
theorem DOk.keep {W w w' : World} {C : Nat} {rs : List RecT} {x : DT} (h : DOk W rs x w) (hb : Below C w w') (hC : w.heap.size ≤ C) : DOk W rs x w' := ⟨h.gone.keep hb hC, h.new.keep hb hC⟩
theorem DOk.out {W W' w : World} {rs : List RecT} {x : DT} (h : DOk W rs x w) (hC : W'.heap.size ≤ W.heap.size) (h0 : Below W'.heap.size W' W) : DOk W' rs x w := ⟨h.gone.out hC h0, h.new.out hC h0⟩
/-- What the deltas hold does not lie where the deltas do. -/
def DJ (xs : List DT) (vo : Value) : Prop := ∀ x ∈ xs, ∀ q, vo.ownBlock = some q → x.2.1.ownBlock ≠ some q ∧ x.2.2.ownBlock ≠ some q
theorem dok_append {W w w' : World} {rs : List RecT} {xs : List DT} {vo : Value} (hx : ∀ x ∈ xs, DOk W rs x w) (dj : DJ xs vo) (hb : Below W.heap.size W w') (hs : w.heap.size ≤ w'.heap.size) (q3 : ∀ k, k < w.heap.size → some k ≠ vo.ownBlock → w'.heap[k]? = w.heap[k]?) : ∀ x ∈ xs, DOk W rs x w' :=
  fun x hm => ⟨(hx x hm).gone.block hb hs (fun k hk => q3 k ((hx x hm).gone.lt k hk).2 (fun e => (dj x hm k e.symm).1 hk)), (hx x hm).new.block hb hs (fun k hk => q3 k ((hx x hm).new.lt k hk).2 (fun e => (dj x hm k e.symm).2 hk))⟩
theorem dj_append {W w : World} {rs : List RecT} {xs : List DT} {vo v' : Value} (hx : ∀ x ∈ xs, DOk W rs x w) (dj : DJ xs vo) (q4 : v'.ownBlock = vo.ownBlock ∨ v'.ownBlock = some w.heap.size) : DJ xs v' := by
  intro x hm q hq
  rcases q4 with h | h
  · rw [h] at hq; exact dj x hm q hq
  · rw [h] at hq
    injection hq with hq
    subst hq
    exact ⟨fun e => by have := ((hx x hm).gone.lt _ e).2; omega, fun e => by have := ((hx x hm).new.lt _ e).2; omega⟩
theorem preD_nil (s : Nat ⊕ List DTrip) : preD [] s = s := by cases s <;> rfl
theorem soa_next {rs : List RecT} {i : Nat} (h : nextS rs i < rs.length) : ∃ r, rs[nextS rs i]? = some r ∧ soaB r = true := by
  refine ⟨_, List.getElem?_eq_getElem h, ?_⟩
  have key : ∀ (l : List RecT) (hk : (l.takeWhile fun r => !soaB r).length < l.length), soaB (l[(l.takeWhile fun r => !soaB r).length]'hk) = true := by
    intro l
    induction l with
    | nil => intro hk; simp at hk
    | cons a l ih =>
      intro hk
      cases ha : soaB a with
      | true => simp [List.takeWhile_cons, ha]
      | false =>
        have : ((a :: l).takeWhile fun r => !soaB r) = a :: (l.takeWhile fun r => !soaB r) := by simp [List.takeWhile_cons, ha]
        simp only [this, List.length_cons] at hk ⊢
        simp only [List.getElem_cons_succ]
        exact ih (by omega)
  have h1 : ((rs.drop i).takeWhile fun r => !soaB r).length < (rs.drop i).length := by unfold nextS at h; rw [List.length_drop]; omega
  have := key (rs.drop i) h1
  rw [List.getElem_drop] at this
  unfold nextS
  exact this
theorem deltaR_good {sf : RecT → Nat} {fr i t b : Nat} {rs : List RecT} (h : deltaR sf fr rs i = .inr (t, b)) : i + 1 ≤ t ∧ t + 1 ≤ b ∧ b ≤ rs.length - 1 ∧ ∃ r, rs[t]? = some r ∧ soaB r = true := by
  unfold deltaR at h
  split at h
  · cases h
  · split at h
    · split at h
      · split at h
        · cases h
        · rename_i hT
          injection h with h; injection h with h1 h2
          have g1 := nextS_ge rs (i + 1)
          have g2 := nextS_ge rs (nextS rs (i + 1) + 1)
          have g3 := soa_next (rs := rs) (i := i + 1) (by omega)
          rw [h1] at g1 g2 g3 hT h2
          exact ⟨g1, by omega, by omega, g3⟩
      · cases h
    · cases h
theorem delC_one {f t : RecT} {v1 v2 : Value} (h1 : v1.oneCell' = true) (h2 : v2.oneCell' = true) : ∀ u ∈ delC f t v1 v2, u.oneCell' = true := by
  intro u hu
  unfold delC at hu
  simp only [List.mem_cons, List.not_mem_nil, or_false] at hu
  rcases hu with rfl | rfl | rfl | rfl | rfl | rfl | rfl | rfl | rfl | rfl <;> first | rfl | assumption
theorem del_info : (Tryd.prog.info? 57).map (fun i => (i.zero, i.size, i.bytes)) = some (some (.agg delZ.toArray), 10, 128) := by kernel_rfl
/-- deltas' answer. -/
def DeltasA (sf : RecT → Nat) (fr : Nat) (rs : List RecT) (w : World) (e : Ending) (w' : World) : Prop :=
  (∃ er : Nat, deltasR sf fr rs = .inl er ∧ e = .returned (.tuple #[.slice none 0 0, .iface 39 (.int .i64 er)]) ∧ Below w.heap.size w w') ∨
  (∃ (ts : List DTrip) (xs : List DT) (v : Value), deltasR sf fr rs = .inr ts ∧ xs.map (·.1) = ts ∧ e = .returned (.tuple #[v, .nilIface]) ∧ OBM 10 w.heap.size w v xs.length (flatD rs xs) w' ∧ ∀ x ∈ xs, DOk w rs x w')
set_option maxHeartbeats 3200000 in
theorem deltas_any (sf : RecT → Nat) (fr bb off n c : Nat) (rs : List RecT) (w : World) (h : Recs w (some ⟨bb, off, none⟩) rs) (hl : rs.length = n) (hn : n ≤ 1000) (h2 : 2 ≤ n) (hc : n ≤ c) (hc2 : c ≤ maxLen)
    (hs : ∀ r ∈ rs, soaB r = true → ∀ w, Calls Tryd.prog 31 #[recV r] w fun e w' => e = .returned (.int .u32 (sf r : Nat)) ∧ Below w.heap.size w w') :
    Calls Tryd.prog 32 #[.int .u32 (fr : Nat), .slice (some ⟨bb, off, none⟩) n c] w (DeltasA sf fr rs w) := by
  obtain ⟨AR, hAR⟩ : ∃ R, R = DeltasA sf fr rs w := ⟨_, rfl⟩
  rw [← hAR]
  have HFAIL : Hid (∀ er : Nat, deltasR sf fr rs = .inl er → ∀ w', Below w.heap.size w w' → AR (.returned (.tuple #[.slice none 0 0, .iface 39 (.int .i64 er)])) w') := Lib.hid (fun er hf w' hb => by rw [hAR]; exact .inl ⟨er, hf, rfl, hb⟩)
  have HGOOD : Hid (∀ (xs : List DT) v w', deltasR sf fr rs = .inr (xs.map (·.1)) → OBM 10 w.heap.size w v xs.length (flatD rs xs) w' → (∀ x ∈ xs, DOk w rs x w') → AR (.returned (.tuple #[v, .nilIface])) w') := Lib.hid (fun xs v w' h1 h2 h3 => by rw [hAR]; exact .inr ⟨_, xs, v, h1, rfl, rfl, h2, h3⟩)
  have HDS : Hid (deltasR sf fr rs = match deltasG sf rs n fr 1 with
    | .inl e => .inl e
    | .inr ts => if endOk rs ts = true then .inr ts else .inl 4) := Lib.hid (by unfold deltasR; rw [hl])
  have DEL : Hid (∀ (i fr : Nat) wx, i < n - 1 → Below w.heap.size w wx → Calls Tryd.prog 48 #[.int .u32 (fr : Nat), .slice (some ⟨bb, off, none⟩) n c, .int .i64 (i : Nat)] wx fun e w' =>
      (∃ er : Nat, deltaR sf fr rs i = .inl er ∧ (∃ EX, EX = Value.agg delZ.toArray ∧ e = .returned (.tuple #[EX, .int .i64 0, .iface 39 (.int .i64 er)])) ∧ Below wx.heap.size wx w') ∨
      (∃ (x : DT) (A1 : Option Addr) (c1 : Nat) (A2 : Option Addr) (c2 : Nat), x.1.1 = i ∧ deltaR sf fr rs i = .inr (x.1.2.1, x.1.2.2) ∧ x.2.1 = .slice A1 (x.1.2.1 - (x.1.1 + 1)) c1 ∧ x.2.2 = .slice A2 (x.1.2.2 - (x.1.2.1 + 1)) c2 ∧ (∃ EX, EX = Value.agg (delX rs x).toArray ∧ e = .returned (.tuple #[EX, .int .i64 (x.1.2.2 : Nat), .nilIface])) ∧ DOk wx rs x w')) :=
    Lib.hid (fun i fr wx hi hb => (delta_any sf fr bb off n c i rs wx (h.below hb) hl hn (by omega) hc hc2 hs).mono (by
      rintro e w' (⟨er, h1, rfl, h3⟩ | ⟨tq, bh, f, t, v1, v2, h1, h2, h3, rfl, o1, o2⟩)
      · exact .inl ⟨er, h1, ⟨_, rfl, rfl⟩, h3⟩
      · obtain ⟨A1, c1, e1, -⟩ := o1.slice
        obtain ⟨A2, c2, e2, -⟩ := o2.slice
        refine .inr ⟨((i, tq, bh), v1, v2), A1, c1, A2, c2, rfl, h1, e1, e2, ⟨_, rfl, ?_⟩, ⟨o1, o2⟩⟩
        unfold delX
        rw [rAt_of h2, rAt_of h3]))
  have SE : Hid (∀ (x : DT) (i fr : Nat), deltaR sf fr rs i = .inr (x.1.2.1, x.1.2.2) → ∀ wx, Calls Tryd.prog 31 #[recV (rAt rs x.1.2.1)] wx fun e w' => e = .returned (.int .u32 (sf (rAt rs x.1.2.1) : Nat)) ∧ Below wx.heap.size wx w') := Lib.hid (fun x i fr hd wx => by
    obtain ⟨-, -, -, r, hr, hsr⟩ := deltaR_good hd
    rw [rAt_of hr]
    exact hs r (List.mem_of_getElem? hr) hsr wx)
  have HALL := Lib.hid h
  have HL := Lib.hid hl
  obtain ⟨i0, hi0, hz0, hz1, hz2⟩ := info_parts4 del_info
  clear h hl hs hAR
  go_enter Tryd.func32, Tryd.ntmps32
  go_wp2_with fail
  go_loopw [0, 7, 8] (fun vf vo va wr => ∃ (fr2 k : Nat) (xs : List DT) (fu : Nat), vf = .int .u32 (fr2 : Nat) ∧ va = .int .i64 (k : Nat) ∧ 1 ≤ k ∧ k ≤ n - 1 ∧ Hid (n ≤ k + fu) ∧ Hid (xs.length + 1 ≤ k) ∧ Hid (OBM 10 w.heap.size w vo xs.length (flatD rs xs) wr) ∧ Hid (∀ x ∈ xs, DOk w rs x wr) ∧
      Hid (DJ xs vo) ∧ Hid (deltasG sf rs n fr 1 = preD (xs.map (·.1)) (deltasG sf rs fu fr2 k))) (fun _ _ a _ => n - (intOf a).toNat)
  case atStart => exact ⟨fr, 1, [], n, rfl, rfl, Nat.le_refl _, by omega, Lib.hid (by omega), Lib.hid (by simp), Lib.hid (OBM.start w), Lib.hid (by simp), Lib.hid (by intro x hx; simp at hx), Lib.hid (preD_nil _).symm⟩
  case round =>
    obtain ⟨fr2, k, xs, fu, rfl, rfl, hk1, hkL, HFU, HXK, HO, HX, HDJ, HG⟩ := hrel
    by_cases hlt : k < n - 1
    · have hlt' : (k : Int) < ((n - 1 : Nat) : Int) := by omega
      have DE := Lib.hid (fun (wx : World) (hb : Below w.heap.size w wx) => DEL.out k fr2 wx hlt hb)
      have HB := Lib.hid HO.out.bel
      obtain ⟨VO, CO, rfl, -⟩ := HO.out.slice
      go_upto_region 5 with fail
      go_wp2_with fail
      refine (DE.out _ HB.out).mono ?_
      rintro e wa (⟨er, hde, ⟨EX, hEX, rfl⟩, hba⟩ | ⟨x, A1, c1, A2, c2, hx0, hde, hx1, hx2, ⟨EX, hEX, rfl⟩, hdo⟩)
      · have hF : deltasR sf fr rs = .inl er := by
          rw [HDS.out, HG.out, deltasG_err (by rw [HL.out]; exact hlt) (by have := HFU.out; omega) hde]
          rfl
        have HF := Lib.hid hF
        have HEX := Lib.hid hEX
        have hZ := Cs.new wa #[.string ⟨#[]⟩, .int .u16 0, .int .u32 0, .string ⟨#[]⟩, .string ⟨#[]⟩, .int .u16 0, .int .u32 0, .string ⟨#[]⟩, .slice none 0 0, .slice none 0 0] 57 delZ
        have HTH := Lib.hid (hZ.there 10 rfl)
        have HBM := Lib.hid (below_setCells' (B := w.heap.size) (g := wa.heap.size) (Nat.le_trans HB.out.size hba.size) delZ 0 ((below_trans HB.out HB.out.size hba).alloc (Nat.le_trans HB.out.size hba.size) (.cells #[.string ⟨#[]⟩, .int .u16 0, .int .u32 0, .string ⟨#[]⟩, .string ⟨#[]⟩, .int .u16 0, .int .u32 0, .string ⟨#[]⟩, .slice none 0 0, .slice none 0 0] 57)))
        clear hF hEX hZ hba hde
        go_wp2_with (first | refine wpList_store_mid rfl 57 _ _ rfl wa.heap.size 0 delZ.toArray rfl HEX.out HTH.out (by kernel_rfl) (by simp [delZ, Value.oneCell']) ?_)
        exact HFAIL.out er HF.out _ HBM.out
      · obtain ⟨⟨i', tq, bh⟩, V1, V2⟩ := x
        simp only at hx0 hde hx1 hx2
        subst hx0
        have hgd := deltaR_good hde
        rw [HL.out] at hgd
        obtain ⟨hg1, hg2, hg3, -⟩ := hgd
        have SEX := Lib.hid (SE.out ((i', tq, bh), V1, V2) i' fr2 hde)
        have HNX := Lib.hid (deltasG_next (sf := sf) (k := fu - 1) (xs.map (·.1)) (by rw [HL.out]; exact hlt) hde)
        obtain ⟨m1, hm1⟩ : ∃ m, m = tq - (i' + 1) := ⟨_, rfl⟩
        obtain ⟨m2, hm2⟩ : ∃ m, m = bh - (tq + 1) := ⟨_, rfl⟩
        rw [← hm1] at hx1
        rw [← hm2] at hx2
        subst hx1 hx2
        have HXN := Lib.hid hdo
        have hfd : flatD rs (xs ++ [((i', tq, bh), .slice A1 m1 c1, .slice A2 m2 c2)]) = flatD rs xs ++ delX rs ((i', tq, bh), .slice A1 m1 c1, .slice A2 m2 c2) := flatD_snoc _ _ _
        unfold delX delC at hEX hfd
        simp only at hEX hfd
        have SEX : Hid (∀ wx, Calls Tryd.prog 31 #[recV (rAt rs tq)] wx fun e w' => e = .returned (.int .u32 (sf (rAt rs tq) : Nat)) ∧ Below wx.heap.size wx w') := SEX
        unfold recV at SEX
        obtain ⟨f, hf⟩ : ∃ f, f = rAt rs i' := ⟨_, rfl⟩
        obtain ⟨t, ht⟩ : ∃ f, f = rAt rs tq := ⟨_, rfl⟩
        rw [← hf, ← ht] at hEX hfd
        rw [← ht] at SEX HNX
        clear hf ht hm1 hm2
        obtain ⟨f0, f1, f2, f3⟩ := f
        obtain ⟨SV, hSV⟩ : ∃ S, S = sf t := ⟨_, rfl⟩
        rw [← hSV] at SEX HNX
        clear hSV
        obtain ⟨t0, t1, t2, t3⟩ := t
        simp only at SEX hEX hfd
        have HEX : Hid (EX = .agg #[.string f0, .int .u16 f1, .int .u32 f2, .string f3, .string t0, .int .u16 t1, .int .u32 t2, .string t3, .slice A1 m1 c1, .slice A2 m2 c2]) := Lib.hid hEX
        have HFD := Lib.hid hfd
        have hbw : Below wr.heap.size wr wa := hdo.gone.bel
        have hZ := Cs.new wa #[.string ⟨#[]⟩, .int .u16 0, .int .u32 0, .string ⟨#[]⟩, .string ⟨#[]⟩, .int .u16 0, .int .u32 0, .string ⟨#[]⟩, .slice none 0 0, .slice none 0 0] 57 delZ
        have HTH := Lib.hid (hZ.there 10 rfl)
        have hM5 := hZ.mid [.string f0, .int .u16 f1, .int .u32 f2, .string f3, .string t0, .int .u16 t1, .int .u32 t2, .string t3, .slice A1 m1 c1, .slice A2 m2 c2] rfl
        have hb5 : Below wa.heap.size wa ((wa.alloc (.cells #[.string ⟨#[]⟩, .int .u16 0, .int .u32 0, .string ⟨#[]⟩, .string ⟨#[]⟩, .int .u16 0, .int .u32 0, .string ⟨#[]⟩, .slice none 0 0, .slice none 0 0] 57)).setCells wa.heap.size 0 [.string f0, .int .u16 f1, .int .u32 f2, .string f3, .string t0, .int .u16 t1, .int .u32 t2, .string t3, .slice A1 m1 c1, .slice A2 m2 c2]) := below_setCells' (Nat.le_refl _) _ 0 ((Below.refl _ _).alloc (Nat.le_refl _) _)
        have H5 := Lib.hid (And.intro hM5 (And.intro hb5 hbw))
        have hxl : xs.length ≤ 1000 := by have := HXK.out; omega
        have HXL := Lib.hid hxl
        clear hEX hfd hZ hM5 hb5 hbw hdo hxl hde
        go_upto_region 6 with (first | refine wpList_store_mid rfl 57 _ _ rfl wa.heap.size 0 #[.string f0, .int .u16 f1, .int .u32 f2, .string f3, .string t0, .int .u16 t1, .int .u32 t2, .string t3, .slice A1 m1 c1, .slice A2 m2 c2] rfl HEX.out HTH.out (by kernel_rfl) (by simp [Value.oneCell']) ?_)
        obtain ⟨hM5, hb5, hbw⟩ := H5.out
        generalize (wa.alloc (.cells #[.string ⟨#[]⟩, .int .u16 0, .int .u32 0, .string ⟨#[]⟩, .string ⟨#[]⟩, .int .u16 0, .int .u32 0, .string ⟨#[]⟩, .slice none 0 0, .slice none 0 0] 57)).setCells wa.heap.size 0 [.string f0, .int .u16 f1, .int .u32 f2, .string f3, .string t0, .int .u16 t1, .int .u32 t2, .string t3, .slice A1 m1 c1, .slice A2 m2 c2] = w5 at *
        obtain ⟨q, hq⟩ : ∃ g, g = wa.heap.size := ⟨_, rfl⟩
        rw [← hq] at hM5 ⊢
        have HQ := Lib.hid hq
        have HC5 := Lib.hid hM5
        have HB5 := Lib.hid (below_trans hbw hbw.size hb5)
        have HWA := Lib.hid (And.intro hbw hb5)
        have HRX := Lib.hid hM5.range
        have ho5 := HO.out.keep HB5.out (Nat.le_refl _)
        have ho := Lib.hid (ho5.alloc (.cells #[.string f0, .int .u16 f1, .int .u32 f2, .string f3, .string t0, .int .u16 t1, .int .u32 t2, .string t3, .slice A1 m1 c1, .slice A2 m2 c2] 57))
        have hS : Hid (Src Tryd.prog 10 46 (.slice (some ⟨w5.heap.size, 0, none⟩) 1 1) 1 [.string f0, .int .u16 f1, .int .u32 f2, .string f3, .string t0, .int .u16 t1, .int .u32 t2, .string t3, .slice A1 m1 c1, .slice A2 m2 c2] (w5.alloc (.cells #[.string f0, .int .u16 f1, .int .u32 f2, .string f3, .string t0, .int .u16 t1, .int .u32 t2, .string t3, .slice A1 m1 c1, .slice A2 m2 c2] 57))) := by
          refine Lib.hid (Src.ofSlice _ Tryd.underlying46 _ 1 1 _ rfl ?_ (delC_one (f := (f0, f1, f2, f3)) (t := (t0, t1, t2, t3)) rfl rfl))
          exact news_at w5 #[.string f0, .int .u16 f1, .int .u32 f2, .string f3, .string t0, .int .u16 t1, .int .u32 t2, .string t3, .slice A1 m1 c1, .slice A2 m2 c2] _
        clear hM5 hb5 hbw hq ho5 H5 HTH
        go_wp2_with (first | (at_builtin; go_loud (refine wpList_append_obm rfl _ _ 46 46 rfl 57 i0 _ 128 Tryd.underlying46 hi0 hz0 hz1 hz2 rfl ho.out rfl rfl hS.out rfl (by have := HXL.out; unfold maxLen; omega) (by have := HXL.out; omega) ?_)) | refine wpList_load_mid rfl 57 _ rfl q 0 rfl _ _ HRX.out Tryd.underlying57 rfl (by kernel_rfl) ?_)
        intro v' w' q1 q2 q3 q4
        have q2 : (w5.alloc (.cells #[.string f0, .int .u16 f1, .int .u32 f2, .string f3, .string t0, .int .u16 t1, .int .u32 t2, .string t3, .slice A1 m1 c1, .slice A2 m2 c2] 57)).heap.size ≤ w'.heap.size := by simpa using q2
        have q3 : ∀ k, k < (w5.alloc (.cells #[.string f0, .int .u16 f1, .int .u32 f2, .string f3, .string t0, .int .u16 t1, .int .u32 t2, .string t3, .slice A1 m1 c1, .slice A2 m2 c2] 57)).heap.size → some k ≠ (Value.slice VO xs.length CO).ownBlock → w'.heap[k]? = (w5.alloc (.cells #[.string f0, .int .u16 f1, .int .u32 f2, .string f3, .string t0, .int .u16 t1, .int .u32 t2, .string t3, .slice A1 m1 c1, .slice A2 m2 c2] 57)).heap[k]? := fun k hk hne => q3 k (by simpa using hk) hne
        have q4 : v'.ownBlock = (Value.slice VO xs.length CO).ownBlock ∨ v'.ownBlock = some (w5.alloc (.cells #[.string f0, .int .u16 f1, .int .u32 f2, .string f3, .string t0, .int .u16 t1, .int .u32 t2, .string t3, .slice A1 m1 c1, .slice A2 m2 c2] 57)).heap.size := by
          rcases q4 with h | h
          · exact .inl h
          · exact .inr (by rw [h]; simp)
        have hqo : ∀ k, (Value.slice VO xs.length CO).ownBlock = some k → k < wr.heap.size := fun k hk => (HO.out.lt k hk).2
        have hqs : wa.heap.size < w5.heap.size := by have := HC5.out.lt; rw [HQ.out] at this; exact this
        have hx5 : ∀ x ∈ xs, DOk w rs x (w5.alloc (.cells #[.string f0, .int .u16 f1, .int .u32 f2, .string f3, .string t0, .int .u16 t1, .int .u32 t2, .string t3, .slice A1 m1 c1, .slice A2 m2 c2] 57)) := fun x hx => ((HX.out x hx).keep HB5.out (Nat.le_refl _)).keep ((Below.refl w5.heap.size w5).alloc (Nat.le_refl _) (.cells #[.string f0, .int .u16 f1, .int .u32 f2, .string f3, .string t0, .int .u16 t1, .int .u32 t2, .string t3, .slice A1 m1 c1, .slice A2 m2 c2] 57)) (Nat.le_refl _)
        have hxn5 : DOk w rs ((i', tq, bh), .slice A1 m1 c1, .slice A2 m2 c2) (w5.alloc (.cells #[.string f0, .int .u16 f1, .int .u32 f2, .string f3, .string t0, .int .u16 t1, .int .u32 t2, .string t3, .slice A1 m1 c1, .slice A2 m2 c2] 57)) := ((HXN.out.keep HWA.out.2 (Nat.le_refl _)).keep ((Below.refl w5.heap.size w5).alloc (Nat.le_refl _) (.cells #[.string f0, .int .u16 f1, .int .u32 f2, .string f3, .string t0, .int .u16 t1, .int .u32 t2, .string t3, .slice A1 m1 c1, .slice A2 m2 c2] 57)) (Nat.le_refl _)).out HB.out.size HB.out
        have hxa : ∀ x ∈ xs ++ [((i', tq, bh), Value.slice A1 m1 c1, Value.slice A2 m2 c2)], DOk w rs x (w5.alloc (.cells #[.string f0, .int .u16 f1, .int .u32 f2, .string f3, .string t0, .int .u16 t1, .int .u32 t2, .string t3, .slice A1 m1 c1, .slice A2 m2 c2] 57)) := fun x hx => by
          rcases List.mem_append.1 hx with hx | hx
          · exact hx5 x hx
          · rw [List.mem_singleton] at hx; rw [hx]; exact hxn5
        have hdja : DJ (xs ++ [((i', tq, bh), Value.slice A1 m1 c1, Value.slice A2 m2 c2)]) (.slice VO xs.length CO) := fun x hx b hb => by
          rcases List.mem_append.1 hx with hx | hx
          · exact HDJ.out x hx b hb
          · rw [List.mem_singleton] at hx
            rw [hx]
            have hbl := hqo b hb
            exact ⟨fun e => by have := (HXN.out.gone.lt b e).1; omega, fun e => by have := (HXN.out.new.lt b e).1; omega⟩
        have XA := Lib.hid (dok_append hxa hdja q1.bel q2 q3)
        have DA := Lib.hid (dj_append hxa hdja q4)
        have hcq : Cs w' q [.string f0, .int .u16 f1, .int .u32 f2, .string f3, .string t0, .int .u16 t1, .int .u32 t2, .string t3, .slice A1 m1 c1, .slice A2 m2 c2] := (HC5.out.alloc (.cells #[.string f0, .int .u16 f1, .int .u32 f2, .string f3, .string t0, .int .u16 t1, .int .u32 t2, .string t3, .slice A1 m1 c1, .slice A2 m2 c2] 57)).block (q3 q (by have := (HC5.out.alloc (.cells #[.string f0, .int .u16 f1, .int .u32 f2, .string f3, .string t0, .int .u16 t1, .int .u32 t2, .string t3, .slice A1 m1 c1, .slice A2 m2 c2] 57)).lt; exact this) (fun e => by
          have := hqo q e.symm
          have h1 := HWA.out.1.size
          rw [HQ.out] at this
          omega)) q2
        have HRT := Lib.hid (hcq.part 4 4 [.string t0, .int .u16 t1, .int .u32 t2, .string t3] rfl)
        have HO' := Lib.hid q1
        clear q1 q2 q3 q4 hqo hqs hx5 hxn5 hxa hdja hcq ho hS HRX
        go_wp2_with (first | refine wpList_load_mid rfl 32 _ rfl q 4 rfl _ _ HRT.out Tryd.underlying32 rfl (by kernel_rfl) ?_)
        refine (SEX.out _).mono ?_
        rintro e w8 ⟨rfl, hb8⟩
        have HB8 := Lib.hid hb8
        clear hb8 SEX
        go_wp2_with fail
        go_round
        case rel =>
          refine ⟨SV, bh, xs ++ [((i', tq, bh), .slice A1 m1 c1, .slice A2 m2 c2)], fu - 1, rfl, rfl, by omega, hg3, Lib.hid (by have := HFU.out; omega), Lib.hid (by rw [List.length_append]; have := HXK.out; simp; omega), Lib.hid ?_, Lib.hid (fun x hx => (XA.out x hx).keep HB8.out (Nat.le_refl _)), DA, Lib.hid ?_⟩
          · rw [HFD.out, List.length_append]
            exact HO'.out.keep HB8.out (Nat.le_refl _)
          · have h1 := HNX.out
            have hfu : fu - 1 + 1 = fu := by have := HFU.out; omega
            rw [hfu] at h1
            rw [HG.out, h1, List.map_append]
            rfl
        case measure => simp [intOf]; omega
    · have hlt' : ¬ (k : Int) < ((n - 1 : Nat) : Int) := by omega
      go_upto_region 10 with fail
      have HDR : Hid (deltasR sf fr rs = if endOk rs (xs.map (·.1)) = true then .inr (xs.map (·.1)) else .inl 4) := Lib.hid (by
        rw [HDS.out, HG.out, deltasG_stop (by rw [HL.out]; exact hlt)]
        simp [preD])
      have HB := Lib.hid HO.out.bel
      obtain ⟨rl, hrl⟩ : ∃ r, rs[n - 1]? = some r := ⟨_, List.getElem?_eq_getElem (by rw [HL.out]; omega)⟩
      obtain ⟨rf, hrf⟩ : ∃ r, rs[0]? = some r := ⟨_, List.getElem?_eq_getElem (by rw [HL.out]; omega)⟩
      have HAL := Lib.hid (rAt_of hrl)
      have HAF := Lib.hid (rAt_of hrf)
      obtain ⟨b1, o1, hA1, hb1, hr1⟩ := HALL.out.range hrl
      injection hA1 with hA1; injection hA1 with q1 q2; subst q1 q2
      obtain ⟨b2, o2, hA2, hb2, hr2⟩ := HALL.out.range hrf
      injection hA2 with hA2; injection hA2 with q1 q2; subst q1 q2
      obtain ⟨L, hL⟩ : ∃ L, L = n - 1 := ⟨_, rfl⟩
      rw [← hL] at hr1 HAL
      have HRL : Hid (∀ wx, Below w.heap.size w wx → wx.rangeAt bb (off + L * 4) (recCells rl)) := Lib.hid (fun wx hb j v hv => (hb.cell (p := ⟨bb, off + L * 4 + j, none⟩) hb1).trans (hr1 j v hv))
      have HRF : Hid (∀ wx, Below w.heap.size w wx → wx.rangeAt bb off (recCells rf)) := Lib.hid (fun wx hb j v hv => (hb.cell (p := ⟨bb, off + j, none⟩) hb1).trans (by have := hr2 j v hv; simpa using this))
      obtain ⟨VL, hVL⟩ : ∃ v, v = recV rl := ⟨_, rfl⟩
      obtain ⟨VF, hVF⟩ : ∃ v, v = recV rf := ⟨_, rfl⟩
      have HVL := Lib.hid hVL
      have HVF := Lib.hid hVF
      have HLN := Lib.hid hL
      have hLn : (L : Int) < n := by omega
      have hLn' : L < n := by omega
      have hn0 : (0 : Int) < n := by omega
      have hn0' : 0 < n := by omega
      have HN1 : Hid (∀ w, (binOp .neq 32 VL VF).run Tryd.prog w = .ok (.bool (!eqB rl rf)) w) := Lib.hid (fun w => by rw [HVL.out, HVF.out]; exact rec_neq rl rf w)
      have hLi : (n : Int) - 1 = (L : Int) := by omega
      rw [hLi]
      clear hLi hrl hrf hb1 hr1 hb2 hr2 hVL hVF hL hlt hlt' HG HDS DEL SE HDJ HFU
      rcases List.eq_nil_or_concat xs with hxs | ⟨ys, x, hxs⟩
      · subst hxs
        have HEO : Hid (endOk rs (List.map (·.1) ([] : List DT)) = false) := Lib.hid rfl
        obtain ⟨VO, CO, hvo, -⟩ := HO.out.slice
        rw [List.length_nil] at hvo
        subst hvo
        refine wp_region_goesG data_follows (fun x => by simp [putsF, Act.put]; rfl) wr.heap.size wr
          [isV (.slice VO 0 CO), isV (.int .i64 0), isV (.bool true), isV (.bool true), isV undef, isV undef, isV undef, isV undef, isV undef, isV undef, isV undef, isV undef, isV (.bool true), isV (.bool true), isV undef, isV undef, isV undef, isV undef, isV undef, isV undef, isV undef, isV undef, isV undef, isV undef, isV undef, isV (.bool true)]
          (by kernel_rfl) (by kernel_rfl) (by kernel_rfl) rfl ?_ (Below.refl _ _) ?_ ?_
        · repeat (first | exact trivial | refine ⟨isV_stays _, ?_⟩)
        · refine ⟨?_, ?_, ?_, ?_, ?_, ?_, ?_, ?_, ?_, ?_, ?_, ?_, ?_, ?_, ?_, ?_, ?_, ?_, ?_, ?_, ?_, ?_, ?_, ?_, ?_, ?_, trivial⟩
          all_goals
            intro x wx hR hd
            simp at hd
          · refine ⟨fun _ => ?_, fun hX => by first | (simp at hX; done) | (simp [hd] at hX; done)⟩
            (try simp [hd]); go_simp; exact next_same _ rfl rfl hR
          · refine ⟨fun _ => ?_, fun hX => by first | (simp at hX; done) | (simp [hd] at hX; done)⟩
            (try simp [hd]); go_simp; exact next_same _ rfl rfl hR
          · refine ⟨fun _ => ?_, fun hX => by first | (simp at hX; done) | (simp [hd] at hX; done)⟩
            (try simp [hd]); go_simp; exact next_same _ rfl rfl hR
          · refine ⟨fun _ => ?_, fun hX => by first | (simp at hX; done) | (simp [hd] at hX; done)⟩
            (try simp [hd]); go_simp; exact next_same _ rfl rfl hR
          · refine ⟨fun hX => ?_, fun _ => rfl⟩
            exfalso; first | (simp [hd] at hX; done) | (simp [hd, undef] at hX; done)
          · refine ⟨fun hX => ?_, fun _ => rfl⟩
            exfalso; first | (simp [hd] at hX; done) | (simp [hd, undef] at hX; done)
          · refine ⟨fun hX => ?_, fun _ => rfl⟩
            exfalso; first | (simp [hd] at hX; done) | (simp [hd, undef] at hX; done)
          · refine ⟨fun hX => ?_, fun _ => rfl⟩
            exfalso; first | (simp [hd] at hX; done) | (simp [hd, undef] at hX; done)
          · refine ⟨fun hX => ?_, fun _ => rfl⟩
            exfalso; first | (simp [hd] at hX; done) | (simp [hd, undef] at hX; done)
          · refine ⟨fun hX => ?_, fun _ => rfl⟩
            exfalso; first | (simp [hd] at hX; done) | (simp [hd, undef] at hX; done)
          · refine ⟨fun hX => ?_, fun _ => rfl⟩
            exfalso; first | (simp [hd] at hX; done) | (simp [hd, undef] at hX; done)
          · refine ⟨fun hX => ?_, fun _ => rfl⟩
            exfalso; first | (simp [hd] at hX; done) | (simp [hd, undef] at hX; done)
          · refine ⟨fun _ => ?_, fun hX => by first | (simp at hX; done) | (simp [hd] at hX; done)⟩
            (try simp [hd]); go_simp; exact next_same _ rfl rfl hR
          · refine ⟨fun _ => ?_, fun hX => by first | (simp at hX; done) | (simp [hd] at hX; done)⟩
            (try simp [hd]); go_simp; exact next_same _ rfl rfl hR
          · refine ⟨fun hX => ?_, fun _ => rfl⟩
            exfalso; first | (simp [hd] at hX; done) | (simp [hd, undef] at hX; done)
          · refine ⟨fun hX => ?_, fun _ => rfl⟩
            exfalso; first | (simp [hd] at hX; done) | (simp [hd, undef] at hX; done)
          · refine ⟨fun hX => ?_, fun _ => rfl⟩
            exfalso; first | (simp [hd] at hX; done) | (simp [hd, undef] at hX; done)
          · refine ⟨fun hX => ?_, fun _ => rfl⟩
            exfalso; first | (simp [hd] at hX; done) | (simp [hd, undef] at hX; done)
          · refine ⟨fun hX => ?_, fun _ => rfl⟩
            exfalso; first | (simp [hd] at hX; done) | (simp [hd, undef] at hX; done)
          · refine ⟨fun hX => ?_, fun _ => rfl⟩
            exfalso; first | (simp [hd] at hX; done) | (simp [hd, undef] at hX; done)
          · refine ⟨fun hX => ?_, fun _ => rfl⟩
            exfalso; first | (simp [hd] at hX; done) | (simp [hd, undef] at hX; done)
          · refine ⟨fun hX => ?_, fun _ => rfl⟩
            exfalso; first | (simp [hd] at hX; done) | (simp [hd, undef] at hX; done)
          · refine ⟨fun hX => ?_, fun _ => rfl⟩
            exfalso; first | (simp [hd] at hX; done) | (simp [hd, undef] at hX; done)
          · refine ⟨fun hX => ?_, fun _ => rfl⟩
            exfalso; first | (simp [hd] at hX; done) | (simp [hd, undef] at hX; done)
          · refine ⟨fun hX => ?_, fun _ => rfl⟩
            exfalso; first | (simp [hd] at hX; done) | (simp [hd, undef] at hX; done)
          · refine ⟨fun _ => ?_, fun hX => by first | (simp at hX; done) | (simp [hd] at hX; done)⟩
            (try simp [hd]); go_simp; exact next_same _ rfl rfl hR
        intro x w7 hR hx
        simp [AllWords] at hx
        have h25 : x 25 = .bool true := by simp [hx]
        rw [h25]
        clear hx h25
        have HB7 := Lib.hid hR
        clear hR
        go_wp2_with fail
        exact HFAIL.out 4 (by rw [HDR.out, HEO.out]; rfl) _ (below_trans HB.out HB.out.size HB7.out)
      · rw [List.concat_eq_append] at hxs
        obtain ⟨M1, hM1⟩ : ∃ M, M = ys.length := ⟨_, rfl⟩
        obtain ⟨m, hm⟩ : ∃ m, m = xs.length := ⟨_, rfl⟩
        have hmM : m = M1 + 1 := by rw [hm, hxs, hM1]; simp
        have HM := Lib.hid hm.symm
        have hxk := HXK.out
        obtain ⟨VO, CO, hvo, hv1, hv2, hv3⟩ := HO.out.slice3
        rcases hv3 with ⟨-, h, -⟩ | ⟨g, hvg, -, hgw⟩
        · exfalso; omega
        subst hvg
        rw [← hm] at hvo hxk HO
        subst hvo
        have HEO0 : Hid (endOk rs (xs.map (·.1)) = (eqB rl rf && eqB (rAt rs x.1.2.1) rf)) := Lib.hid (by
          unfold endOk
          rw [hxs, List.map_append, List.map_cons, List.map_nil, List.getLast?_append, List.getLast?_singleton]
          simp only [Option.or]
          rw [HL.out, ← HLN.out, HAL.out, HAF.out])
        have hrt : ∀ wx, Below wr.heap.size wr wx → wx.rangeAt g (M1 * 10 + 4) (recCells (rAt rs x.1.2.1)) := fun wx hb j u hu => by
          refine (HO.out.keep hb (Nat.le_refl _)).cell (M1 * 10 + 4 + j) u ?_
          rw [hxs]
          unfold flatD
          rw [List.flatMap_append]
          have hfl : (List.flatMap (delX rs) ys).length = M1 * 10 := by rw [hM1]; exact flatD_len rs ys
          rw [List.getElem?_append_right (by omega), hfl, show M1 * 10 + 4 + j - M1 * 10 = 4 + j by omega, List.flatMap_singleton]
          unfold delX delC
          unfold recCells at hu
          match j, hu with
          | 0, hu => exact hu
          | 1, hu => exact hu
          | 2, hu => exact hu
          | 3, hu => exact hu
          | j + 4, hu => simp at hu
        have HRT := Lib.hid hrt
        generalize rAt rs x.1.2.1 = rt at *
        obtain ⟨VT, hVT⟩ : ∃ v, v = recV rt := ⟨_, rfl⟩
        have HVT := Lib.hid hVT
        have HN2 : Hid (∀ w, (binOp .neq 32 VT VF).run Tryd.prog w = .ok (.bool (!eqB rt rf)) w) := Lib.hid (fun w => by rw [HVT.out, HVF.out]; exact rec_neq rt rf w)
        have z1 : wrap64 ((m : Int) - 1) = (M1 : Int) := by unfold wrap64; omega
        have z2 : IntKind.i64.wrap ((m : Int) - 1) = (M1 : Int) := by rw [IntKind.wrap_i64]; omega
        have z3 : (M1 : Int) < m := by omega
        have z3' : M1 < m := by omega
        have z4 : ((m : Int) == 0) = false := by rw [beq_eq_false_iff_ne]; omega
        have z5 : ¬ (m : Int) = 0 := by omega
        have z6 : ¬ m = 0 := by omega
        clear hM1 hm hmM hxs hv1 hv2 hgw hrt hVT hxk
        cases hq1 : eqB rl rf with
        | false =>
          have HEO : Hid (endOk rs (xs.map (·.1)) = false) := Lib.hid (by rw [HEO0.out, hq1]; rfl)
          rw [hq1] at HN1
          clear hq1 HEO0
          refine wp_region_goesG data_follows (fun x => by simp [putsF, Act.put]; rfl) wr.heap.size wr
            [isV (.slice (some ⟨g, 0, none⟩) m CO), isV (.int .i64 (m : Nat)), isV (.bool false), isV (.bool false), isV (.slice (some ⟨bb, off, none⟩) n c), isV (.int .i64 (L : Nat)), isV (.pointer (some ⟨bb, off + L * 4, none⟩)), isV VL, isV (.slice (some ⟨bb, off, none⟩) n c), isV (.pointer (some ⟨bb, off, none⟩)), isV VF, isV (.bool true), isV (.bool true), isV (.bool true), isV undef, isV undef, isV undef, isV undef, isV undef, isV undef, isV undef, isV undef, isV undef, isV undef, isV undef, isV (.bool true)]
            (by kernel_rfl) (by kernel_rfl) (by kernel_rfl) rfl ?_ (Below.refl _ _) ?_ ?_
          · repeat (first | exact trivial | refine ⟨isV_stays _, ?_⟩)
          · refine ⟨?_, ?_, ?_, ?_, ?_, ?_, ?_, ?_, ?_, ?_, ?_, ?_, ?_, ?_, ?_, ?_, ?_, ?_, ?_, ?_, ?_, ?_, ?_, ?_, ?_, ?_, trivial⟩
            all_goals
              intro x wx hR hd
              simp at hd
            · refine ⟨fun _ => ?_, fun hX => by first | (simp at hX; done) | (simp [hd] at hX; done)⟩
              (try simp [hd]); go_simp; exact next_same _ rfl rfl hR
            · refine ⟨fun _ => ?_, fun hX => by first | (simp at hX; done) | (simp [hd] at hX; done)⟩
              (try simp [hd]); go_simp; exact next_same _ rfl rfl hR
            · refine ⟨fun _ => ?_, fun hX => by first | (simp at hX; done) | (simp [hd] at hX; done)⟩
              (try simp [hd]); go_simp; exact next_same _ rfl rfl hR
            · refine ⟨fun _ => ?_, fun hX => by first | (simp at hX; done) | (simp [hd] at hX; done)⟩
              (try simp [hd]); go_simp; exact next_same _ rfl rfl hR
            · refine ⟨fun _ => ?_, fun hX => by first | (simp at hX; done) | (simp [hd] at hX; done)⟩
              (try simp [hd]); go_simp; exact next_same _ rfl rfl hR
            · refine ⟨fun _ => ?_, fun hX => by first | (simp at hX; done) | (simp [hd] at hX; done)⟩
              (try simp [hd]); go_simp; exact next_same _ rfl rfl hR
            · refine ⟨fun _ => ?_, fun hX => by first | (simp at hX; done) | (simp [hd] at hX; done)⟩
              (try simp [hd]); go_simp; exact next_same _ rfl rfl hR
            · refine ⟨fun _ => ?_, fun hX => by first | (simp at hX; done) | (simp [hd] at hX; done)⟩
              refine wp_load_mid 32 _ rfl bb (off + L * 4) (by simp [go_sem, hd]) _ _ (HRL.out wx (below_trans HB.out HB.out.size hR)) Tryd.underlying32 rfl (by kernel_rfl) ?_
              exact next_same _ rfl HVL.out.symm hR
            · refine ⟨fun _ => ?_, fun hX => by first | (simp at hX; done) | (simp [hd] at hX; done)⟩
              (try simp [hd]); go_simp; exact next_same _ rfl rfl hR
            · refine ⟨fun _ => ?_, fun hX => by first | (simp at hX; done) | (simp [hd] at hX; done)⟩
              (try simp [hd]); go_simp; exact next_same _ rfl rfl hR
            · refine ⟨fun _ => ?_, fun hX => by first | (simp at hX; done) | (simp [hd] at hX; done)⟩
              refine wp_load_mid 32 _ rfl bb (off) (by simp [go_sem, hd]) _ _ (HRF.out wx (below_trans HB.out HB.out.size hR)) Tryd.underlying32 rfl (by kernel_rfl) ?_
              exact next_same _ rfl HVF.out.symm hR
            · refine ⟨fun _ => ?_, fun hX => by first | (simp at hX; done) | (simp [hd] at hX; done)⟩
              obtain ⟨hd0, hd1, -⟩ := hd
              exact wp_binop _ _ _ _ _ rfl hd0 hd1 (by rw [HVL.out, HVF.out]; first | kernel_rfl | rfl) (HN1.out wx) (next_same _ rfl rfl hR)
            · refine ⟨fun _ => ?_, fun hX => by first | (simp at hX; done) | (simp [hd] at hX; done)⟩
              (try simp [hd]); go_simp; exact next_same _ rfl rfl hR
            · refine ⟨fun _ => ?_, fun hX => by first | (simp at hX; done) | (simp [hd] at hX; done)⟩
              (try simp [hd]); go_simp; exact next_same _ rfl rfl hR
            · refine ⟨fun hX => ?_, fun _ => rfl⟩
              exfalso; first | (simp [hd] at hX; done) | (simp [hd, undef] at hX; done)
            · refine ⟨fun hX => ?_, fun _ => rfl⟩
              exfalso; first | (simp [hd] at hX; done) | (simp [hd, undef] at hX; done)
            · refine ⟨fun hX => ?_, fun _ => rfl⟩
              exfalso; first | (simp [hd] at hX; done) | (simp [hd, undef] at hX; done)
            · refine ⟨fun hX => ?_, fun _ => rfl⟩
              exfalso; first | (simp [hd] at hX; done) | (simp [hd, undef] at hX; done)
            · refine ⟨fun hX => ?_, fun _ => rfl⟩
              exfalso; first | (simp [hd] at hX; done) | (simp [hd, undef] at hX; done)
            · refine ⟨fun hX => ?_, fun _ => rfl⟩
              exfalso; first | (simp [hd] at hX; done) | (simp [hd, undef] at hX; done)
            · refine ⟨fun hX => ?_, fun _ => rfl⟩
              exfalso; first | (simp [hd] at hX; done) | (simp [hd, undef] at hX; done)
            · refine ⟨fun hX => ?_, fun _ => rfl⟩
              exfalso; first | (simp [hd] at hX; done) | (simp [hd, undef] at hX; done)
            · refine ⟨fun hX => ?_, fun _ => rfl⟩
              exfalso; first | (simp [hd] at hX; done) | (simp [hd, undef] at hX; done)
            · refine ⟨fun hX => ?_, fun _ => rfl⟩
              exfalso; first | (simp [hd] at hX; done) | (simp [hd, undef] at hX; done)
            · refine ⟨fun hX => ?_, fun _ => rfl⟩
              exfalso; first | (simp [hd] at hX; done) | (simp [hd, undef] at hX; done)
            · refine ⟨fun _ => ?_, fun hX => by first | (simp at hX; done) | (simp [hd] at hX; done)⟩
              (try simp [hd]); go_simp; exact next_same _ rfl rfl hR
          intro x w7 hR hx
          simp [AllWords] at hx
          have h25 : x 25 = .bool true := by simp [hx]
          rw [h25]
          clear hx h25
          have HB7 := Lib.hid hR
          clear hR
          go_wp2_with fail
          exact HFAIL.out 4 (by rw [HDR.out, HEO.out]; rfl) _ (below_trans HB.out HB.out.size HB7.out)
        | true =>
          rw [hq1] at HN1
          cases hq2 : eqB rt rf with
          | false =>
            have HEO : Hid (endOk rs (xs.map (·.1)) = false) := Lib.hid (by rw [HEO0.out, hq1, hq2]; rfl)
            rw [hq2] at HN2
            clear hq1 hq2 HEO0
            refine wp_region_goesG data_follows (fun x => by simp [putsF, Act.put]; rfl) wr.heap.size wr
              [isV (.slice (some ⟨g, 0, none⟩) m CO), isV (.int .i64 (m : Nat)), isV (.bool false), isV (.bool false), isV (.slice (some ⟨bb, off, none⟩) n c), isV (.int .i64 (L : Nat)), isV (.pointer (some ⟨bb, off + L * 4, none⟩)), isV VL, isV (.slice (some ⟨bb, off, none⟩) n c), isV (.pointer (some ⟨bb, off, none⟩)), isV VF, isV (.bool false), isV (.bool false), isV (.bool false), isV (.slice (some ⟨g, 0, none⟩) m CO), isV (.slice (some ⟨g, 0, none⟩) m CO), isV (.int .i64 (m : Nat)), isV (.int .i64 (M1 : Nat)), isV (.pointer (some ⟨g, M1 * 10, none⟩)), isV (.pointer (some ⟨g, M1 * 10 + 4, none⟩)), isV VT, isV (.slice (some ⟨bb, off, none⟩) n c), isV (.pointer (some ⟨bb, off, none⟩)), isV VF, isV (.bool true), isV (.bool true)]
              (by kernel_rfl) (by kernel_rfl) (by kernel_rfl) rfl ?_ (Below.refl _ _) ?_ ?_
            · repeat (first | exact trivial | refine ⟨isV_stays _, ?_⟩)
            · refine ⟨?_, ?_, ?_, ?_, ?_, ?_, ?_, ?_, ?_, ?_, ?_, ?_, ?_, ?_, ?_, ?_, ?_, ?_, ?_, ?_, ?_, ?_, ?_, ?_, ?_, ?_, trivial⟩
              all_goals
                intro x wx hR hd
                simp at hd
              · refine ⟨fun _ => ?_, fun hX => by first | (simp at hX; done) | (simp [hd] at hX; done)⟩
                (try simp [hd]); go_simp; exact next_same _ rfl rfl hR
              · refine ⟨fun _ => ?_, fun hX => by first | (simp at hX; done) | (simp [hd] at hX; done)⟩
                (try simp [hd]); go_simp; exact next_same _ rfl rfl hR
              · refine ⟨fun _ => ?_, fun hX => by first | (simp at hX; done) | (simp [hd] at hX; done)⟩
                (try simp [hd]); go_simp; exact next_same _ rfl rfl hR
              · refine ⟨fun _ => ?_, fun hX => by first | (simp at hX; done) | (simp [hd] at hX; done)⟩
                (try simp [hd]); go_simp; exact next_same _ rfl rfl hR
              · refine ⟨fun _ => ?_, fun hX => by first | (simp at hX; done) | (simp [hd] at hX; done)⟩
                (try simp [hd]); go_simp; exact next_same _ rfl rfl hR
              · refine ⟨fun _ => ?_, fun hX => by first | (simp at hX; done) | (simp [hd] at hX; done)⟩
                (try simp [hd]); go_simp; exact next_same _ rfl rfl hR
              · refine ⟨fun _ => ?_, fun hX => by first | (simp at hX; done) | (simp [hd] at hX; done)⟩
                (try simp [hd]); go_simp; exact next_same _ rfl rfl hR
              · refine ⟨fun _ => ?_, fun hX => by first | (simp at hX; done) | (simp [hd] at hX; done)⟩
                refine wp_load_mid 32 _ rfl bb (off + L * 4) (by simp [go_sem, hd]) _ _ (HRL.out wx (below_trans HB.out HB.out.size hR)) Tryd.underlying32 rfl (by kernel_rfl) ?_
                exact next_same _ rfl HVL.out.symm hR
              · refine ⟨fun _ => ?_, fun hX => by first | (simp at hX; done) | (simp [hd] at hX; done)⟩
                (try simp [hd]); go_simp; exact next_same _ rfl rfl hR
              · refine ⟨fun _ => ?_, fun hX => by first | (simp at hX; done) | (simp [hd] at hX; done)⟩
                (try simp [hd]); go_simp; exact next_same _ rfl rfl hR
              · refine ⟨fun _ => ?_, fun hX => by first | (simp at hX; done) | (simp [hd] at hX; done)⟩
                refine wp_load_mid 32 _ rfl bb (off) (by simp [go_sem, hd]) _ _ (HRF.out wx (below_trans HB.out HB.out.size hR)) Tryd.underlying32 rfl (by kernel_rfl) ?_
                exact next_same _ rfl HVF.out.symm hR
              · refine ⟨fun _ => ?_, fun hX => by first | (simp at hX; done) | (simp [hd] at hX; done)⟩
                obtain ⟨hd0, hd1, -⟩ := hd
                exact wp_binop _ _ _ _ _ rfl hd0 hd1 (by rw [HVL.out, HVF.out]; first | kernel_rfl | rfl) (HN1.out wx) (next_same _ rfl rfl hR)
              · refine ⟨fun _ => ?_, fun hX => by first | (simp at hX; done) | (simp [hd] at hX; done)⟩
                (try simp [hd]); go_simp; exact next_same _ rfl rfl hR
              · refine ⟨fun _ => ?_, fun hX => by first | (simp at hX; done) | (simp [hd] at hX; done)⟩
                (try simp [hd]); go_simp; exact next_same _ rfl rfl hR
              · refine ⟨fun _ => ?_, fun hX => by first | (simp at hX; done) | (simp [hd] at hX; done)⟩
                (try simp [hd]); go_simp; exact next_same _ rfl rfl hR
              · refine ⟨fun _ => ?_, fun hX => by first | (simp at hX; done) | (simp [hd] at hX; done)⟩
                (try simp [hd]); go_simp; exact next_same _ rfl rfl hR
              · refine ⟨fun _ => ?_, fun hX => by first | (simp at hX; done) | (simp [hd] at hX; done)⟩
                (try simp [hd]); go_simp; exact next_same _ rfl rfl hR
              · refine ⟨fun _ => ?_, fun hX => by first | (simp at hX; done) | (simp [hd] at hX; done)⟩
                (try simp [hd]); go_simp; exact next_same _ rfl rfl hR
              · refine ⟨fun _ => ?_, fun hX => by first | (simp at hX; done) | (simp [hd] at hX; done)⟩
                (try simp [hd]); go_simp; exact next_same _ rfl rfl hR
              · refine ⟨fun _ => ?_, fun hX => by first | (simp at hX; done) | (simp [hd] at hX; done)⟩
                (try simp [hd]); go_simp; exact next_same _ rfl rfl hR
              · refine ⟨fun _ => ?_, fun hX => by first | (simp at hX; done) | (simp [hd] at hX; done)⟩
                refine wp_load_mid 32 _ rfl g (M1 * 10 + 4) (by simp [go_sem, hd]) _ _ (HRT.out wx hR) Tryd.underlying32 rfl (by kernel_rfl) ?_
                exact next_same _ rfl HVT.out.symm hR
              · refine ⟨fun _ => ?_, fun hX => by first | (simp at hX; done) | (simp [hd] at hX; done)⟩
                (try simp [hd]); go_simp; exact next_same _ rfl rfl hR
              · refine ⟨fun _ => ?_, fun hX => by first | (simp at hX; done) | (simp [hd] at hX; done)⟩
                (try simp [hd]); go_simp; exact next_same _ rfl rfl hR
              · refine ⟨fun _ => ?_, fun hX => by first | (simp at hX; done) | (simp [hd] at hX; done)⟩
                refine wp_load_mid 32 _ rfl bb (off) (by simp [go_sem, hd]) _ _ (HRF.out wx (below_trans HB.out HB.out.size hR)) Tryd.underlying32 rfl (by kernel_rfl) ?_
                exact next_same _ rfl HVF.out.symm hR
              · refine ⟨fun _ => ?_, fun hX => by first | (simp at hX; done) | (simp [hd] at hX; done)⟩
                obtain ⟨hd0, hd1, -⟩ := hd
                exact wp_binop _ _ _ _ _ rfl hd0 hd1 (by rw [HVT.out, HVF.out]; first | kernel_rfl | rfl) (HN2.out wx) (next_same _ rfl rfl hR)
              · refine ⟨fun _ => ?_, fun hX => by first | (simp at hX; done) | (simp [hd] at hX; done)⟩
                (try simp [hd]); go_simp; exact next_same _ rfl rfl hR
            intro x w7 hR hx
            simp [AllWords] at hx
            have h25 : x 25 = .bool true := by simp [hx]
            rw [h25]
            clear hx h25
            have HB7 := Lib.hid hR
            clear hR
            go_wp2_with fail
            exact HFAIL.out 4 (by rw [HDR.out, HEO.out]; rfl) _ (below_trans HB.out HB.out.size HB7.out)
          | true =>
            have HEO : Hid (endOk rs (xs.map (·.1)) = true) := Lib.hid (by rw [HEO0.out, hq1, hq2]; rfl)
            rw [hq2] at HN2
            clear hq1 hq2 HEO0
            refine wp_region_goesG data_follows (fun x => by simp [putsF, Act.put]; rfl) wr.heap.size wr
              [isV (.slice (some ⟨g, 0, none⟩) m CO), isV (.int .i64 (m : Nat)), isV (.bool false), isV (.bool false), isV (.slice (some ⟨bb, off, none⟩) n c), isV (.int .i64 (L : Nat)), isV (.pointer (some ⟨bb, off + L * 4, none⟩)), isV VL, isV (.slice (some ⟨bb, off, none⟩) n c), isV (.pointer (some ⟨bb, off, none⟩)), isV VF, isV (.bool false), isV (.bool false), isV (.bool false), isV (.slice (some ⟨g, 0, none⟩) m CO), isV (.slice (some ⟨g, 0, none⟩) m CO), isV (.int .i64 (m : Nat)), isV (.int .i64 (M1 : Nat)), isV (.pointer (some ⟨g, M1 * 10, none⟩)), isV (.pointer (some ⟨g, M1 * 10 + 4, none⟩)), isV VT, isV (.slice (some ⟨bb, off, none⟩) n c), isV (.pointer (some ⟨bb, off, none⟩)), isV VF, isV (.bool false), isV (.bool false)]
              (by kernel_rfl) (by kernel_rfl) (by kernel_rfl) rfl ?_ (Below.refl _ _) ?_ ?_
            · repeat (first | exact trivial | refine ⟨isV_stays _, ?_⟩)
            · refine ⟨?_, ?_, ?_, ?_, ?_, ?_, ?_, ?_, ?_, ?_, ?_, ?_, ?_, ?_, ?_, ?_, ?_, ?_, ?_, ?_, ?_, ?_, ?_, ?_, ?_, ?_, trivial⟩
              all_goals
                intro x wx hR hd
                simp at hd
              · refine ⟨fun _ => ?_, fun hX => by first | (simp at hX; done) | (simp [hd] at hX; done)⟩
                (try simp [hd]); go_simp; exact next_same _ rfl rfl hR
              · refine ⟨fun _ => ?_, fun hX => by first | (simp at hX; done) | (simp [hd] at hX; done)⟩
                (try simp [hd]); go_simp; exact next_same _ rfl rfl hR
              · refine ⟨fun _ => ?_, fun hX => by first | (simp at hX; done) | (simp [hd] at hX; done)⟩
                (try simp [hd]); go_simp; exact next_same _ rfl rfl hR
              · refine ⟨fun _ => ?_, fun hX => by first | (simp at hX; done) | (simp [hd] at hX; done)⟩
                (try simp [hd]); go_simp; exact next_same _ rfl rfl hR
              · refine ⟨fun _ => ?_, fun hX => by first | (simp at hX; done) | (simp [hd] at hX; done)⟩
                (try simp [hd]); go_simp; exact next_same _ rfl rfl hR
              · refine ⟨fun _ => ?_, fun hX => by first | (simp at hX; done) | (simp [hd] at hX; done)⟩
                (try simp [hd]); go_simp; exact next_same _ rfl rfl hR
              · refine ⟨fun _ => ?_, fun hX => by first | (simp at hX; done) | (simp [hd] at hX; done)⟩
                (try simp [hd]); go_simp; exact next_same _ rfl rfl hR
              · refine ⟨fun _ => ?_, fun hX => by first | (simp at hX; done) | (simp [hd] at hX; done)⟩
                refine wp_load_mid 32 _ rfl bb (off + L * 4) (by simp [go_sem, hd]) _ _ (HRL.out wx (below_trans HB.out HB.out.size hR)) Tryd.underlying32 rfl (by kernel_rfl) ?_
                exact next_same _ rfl HVL.out.symm hR
              · refine ⟨fun _ => ?_, fun hX => by first | (simp at hX; done) | (simp [hd] at hX; done)⟩
                (try simp [hd]); go_simp; exact next_same _ rfl rfl hR
              · refine ⟨fun _ => ?_, fun hX => by first | (simp at hX; done) | (simp [hd] at hX; done)⟩
                (try simp [hd]); go_simp; exact next_same _ rfl rfl hR
              · refine ⟨fun _ => ?_, fun hX => by first | (simp at hX; done) | (simp [hd] at hX; done)⟩
                refine wp_load_mid 32 _ rfl bb (off) (by simp [go_sem, hd]) _ _ (HRF.out wx (below_trans HB.out HB.out.size hR)) Tryd.underlying32 rfl (by kernel_rfl) ?_
                exact next_same _ rfl HVF.out.symm hR
              · refine ⟨fun _ => ?_, fun hX => by first | (simp at hX; done) | (simp [hd] at hX; done)⟩
                obtain ⟨hd0, hd1, -⟩ := hd
                exact wp_binop _ _ _ _ _ rfl hd0 hd1 (by rw [HVL.out, HVF.out]; first | kernel_rfl | rfl) (HN1.out wx) (next_same _ rfl rfl hR)
              · refine ⟨fun _ => ?_, fun hX => by first | (simp at hX; done) | (simp [hd] at hX; done)⟩
                (try simp [hd]); go_simp; exact next_same _ rfl rfl hR
              · refine ⟨fun _ => ?_, fun hX => by first | (simp at hX; done) | (simp [hd] at hX; done)⟩
                (try simp [hd]); go_simp; exact next_same _ rfl rfl hR
              · refine ⟨fun _ => ?_, fun hX => by first | (simp at hX; done) | (simp [hd] at hX; done)⟩
                (try simp [hd]); go_simp; exact next_same _ rfl rfl hR
              · refine ⟨fun _ => ?_, fun hX => by first | (simp at hX; done) | (simp [hd] at hX; done)⟩
                (try simp [hd]); go_simp; exact next_same _ rfl rfl hR
              · refine ⟨fun _ => ?_, fun hX => by first | (simp at hX; done) | (simp [hd] at hX; done)⟩
                (try simp [hd]); go_simp; exact next_same _ rfl rfl hR
              · refine ⟨fun _ => ?_, fun hX => by first | (simp at hX; done) | (simp [hd] at hX; done)⟩
                (try simp [hd]); go_simp; exact next_same _ rfl rfl hR
              · refine ⟨fun _ => ?_, fun hX => by first | (simp at hX; done) | (simp [hd] at hX; done)⟩
                (try simp [hd]); go_simp; exact next_same _ rfl rfl hR
              · refine ⟨fun _ => ?_, fun hX => by first | (simp at hX; done) | (simp [hd] at hX; done)⟩
                (try simp [hd]); go_simp; exact next_same _ rfl rfl hR
              · refine ⟨fun _ => ?_, fun hX => by first | (simp at hX; done) | (simp [hd] at hX; done)⟩
                refine wp_load_mid 32 _ rfl g (M1 * 10 + 4) (by simp [go_sem, hd]) _ _ (HRT.out wx hR) Tryd.underlying32 rfl (by kernel_rfl) ?_
                exact next_same _ rfl HVT.out.symm hR
              · refine ⟨fun _ => ?_, fun hX => by first | (simp at hX; done) | (simp [hd] at hX; done)⟩
                (try simp [hd]); go_simp; exact next_same _ rfl rfl hR
              · refine ⟨fun _ => ?_, fun hX => by first | (simp at hX; done) | (simp [hd] at hX; done)⟩
                (try simp [hd]); go_simp; exact next_same _ rfl rfl hR
              · refine ⟨fun _ => ?_, fun hX => by first | (simp at hX; done) | (simp [hd] at hX; done)⟩
                refine wp_load_mid 32 _ rfl bb (off) (by simp [go_sem, hd]) _ _ (HRF.out wx (below_trans HB.out HB.out.size hR)) Tryd.underlying32 rfl (by kernel_rfl) ?_
                exact next_same _ rfl HVF.out.symm hR
              · refine ⟨fun _ => ?_, fun hX => by first | (simp at hX; done) | (simp [hd] at hX; done)⟩
                obtain ⟨hd0, hd1, -⟩ := hd
                exact wp_binop _ _ _ _ _ rfl hd0 hd1 (by rw [HVT.out, HVF.out]; first | kernel_rfl | rfl) (HN2.out wx) (next_same _ rfl rfl hR)
              · refine ⟨fun _ => ?_, fun hX => by first | (simp at hX; done) | (simp [hd] at hX; done)⟩
                (try simp [hd]); go_simp; exact next_same _ rfl rfl hR
            intro x w7 hR hx
            simp [AllWords] at hx
            have h25 : x 25 = .bool false := by simp [hx]
            rw [h25]
            clear hx h25
            have HB7 := Lib.hid hR
            clear hR
            go_wp2_with fail
            exact HGOOD.out xs _ _ (by rw [HDR.out, HEO.out]; rfl) (by rw [HM.out]; exact HO.out.keep HB7.out (Nat.le_refl _)) (fun x hx => (HX.out x hx).keep HB7.out (Nat.le_refl _))
end Go.Proofs.YtkpjehplchdmgaaDoor
namespace Go.Proofs.YtkpjehplchdmgaaDoor
open Go.RowKit
set_option linter.unusedVariables false
set_option linter.unusedSimpArgs false
set_option maxRecDepth 20000
attribute [local simp] putsF isV wordOf Deps Region.binds Region.wanted Act.put wantedX isB
theorem results_cellE {fn : Func} {p u : Tmp} {ty : TypeId} (h : fn.results = #[.cell p ty, .tmp u]) (tmps : Array Value) (P : Program) (w : World) (b o : Nat) (cs : List Value) (d : TypeDesc) (hp : tmps.getD p undef = .pointer (some ⟨b, o, none⟩)) (hc : w.rangeAt b o cs)
    (hu : P.underlying ty = some d) (hd : d.isRow = true) (hi : (P.info? ty).map (·.size) = some cs.length) : (results fn tmps).run P w = .ok (.tuple #[.agg cs.toArray, tmps.getD u undef]) w := by
  have hp2 : tmps[p]?.getD undef = .pointer (some ⟨b, o, none⟩) := by rw [← hp, Array.getD_eq_getD_getElem?]
  simp only [results, h]
  simp [Sem.run_bind, Result.andThen, hp2, asAddr, run_loadVar_mid w b o ty cs d hc hu hd hi]
/-- What a transfer brings: an error; nothing new; all; deltas. -/
def partR (m : RecT → Bool) (sf : RecT → Nat) (o : ByteArray) (fr : Nat) (rs : List RecT) : Nat ⊕ Option (Option (List DTrip)) :=
  if admR m o rs = true then (if rs.length = 1 then (if sf (rAt rs 0) = fr then .inr none else .inl 5)
    else if fullR m o rs = true then .inr (some none) else (match deltasR sf fr rs with
      | .inl e => .inl e
      | .inr ts => .inr (some (some ts)))) else .inl 4
/-- Part's answer. -/
def PartA (m : RecT → Bool) (sf : RecT → Nat) (o : ByteArray) (fr : Nat) (rs : List RecT) (w : World) (e : Ending) (w' : World) : Prop :=
  (∃ er : Nat, partR m sf o fr rs = .inl er ∧ e = .returned (.tuple #[.agg #[.bool false, .slice none 0 0, .slice none 0 0], .iface 39 (.int .i64 er)]) ∧ Below w.heap.size w w') ∨
  (partR m sf o fr rs = .inr none ∧ e = .returned (.tuple #[.agg #[.bool true, .slice none 0 0, .slice none 0 0], .nilIface]) ∧ Below w.heap.size w w') ∨
  (partR m sf o fr rs = .inr (some none) ∧ ∃ A c, e = .returned (.tuple #[.agg #[.bool false, .slice A (rs.length - 1) c, .slice none 0 0], .nilIface]) ∧ OBM 4 w.heap.size w (.slice A (rs.length - 1) c) (rs.length - 1) (flatR (rs.take (rs.length - 1))) w') ∨
  (∃ (xs : List DT) (A : Option Addr) (c : Nat), partR m sf o fr rs = .inr (some (some (xs.map (·.1)))) ∧ e = .returned (.tuple #[.agg #[.bool false, .slice none 0 0, .slice A xs.length c], .nilIface]) ∧ OBM 10 w.heap.size w (.slice A xs.length c) xs.length (flatD rs xs) w' ∧ ∀ x ∈ xs, DOk w rs x w')
set_option maxHeartbeats 3200000 in
theorem part_any (m : RecT → Bool) (sf : RecT → Nat) (o : ByteArray) (fr : Nat) (A : Option Addr) (n c : Nat) (rs : List RecT) (w : World) (h : Recs w A rs) (hl : rs.length = n) (hn : n ≤ 1000) (hc : n ≤ c) (hc2 : c ≤ maxLen) (ho : o.size ≤ maxLen) (hz : ∀ r ∈ rs, r.1.size ≤ maxLen)
    (hm : ∀ r ∈ rs, ∀ w, Calls Tryd.prog 34 #[recV r] w fun e w' => e = .returned (.bool (m r)) ∧ Below w.heap.size w w')
    (hs : ∀ r ∈ rs, soaB r = true → ∀ w, Calls Tryd.prog 31 #[recV r] w fun e w' => e = .returned (.int .u32 (sf r : Nat)) ∧ Below w.heap.size w w') :
    Calls Tryd.prog 15 #[.string o, .int .u32 (fr : Nat), .slice A n c] w (PartA m sf o fr rs w) := by
  obtain ⟨AR, hAR⟩ : ∃ R, R = PartA m sf o fr rs w := ⟨_, rfl⟩
  rw [← hAR]
  have HFAIL : Hid (∀ er : Nat, partR m sf o fr rs = .inl er → ∀ w', Below w.heap.size w w' → AR (.returned (.tuple #[.agg #[.bool false, .slice none 0 0, .slice none 0 0], .iface 39 (.int .i64 er)])) w') := Lib.hid (fun er hf w' hb => by rw [hAR]; exact .inl ⟨er, hf, rfl, hb⟩)
  have HSAME : Hid (partR m sf o fr rs = .inr none → ∀ w', Below w.heap.size w w' → AR (.returned (.tuple #[.agg #[.bool true, .slice none 0 0, .slice none 0 0], .nilIface])) w') := Lib.hid (fun hf w' hb => by rw [hAR]; exact .inr (.inl ⟨hf, rfl, hb⟩))
  have HALLR : Hid (partR m sf o fr rs = .inr (some none) → ∀ A c w', OBM 4 w.heap.size w (.slice A (n - 1) c) (n - 1) (flatR (rs.take (n - 1))) w' → AR (.returned (.tuple #[.agg #[.bool false, .slice A (n - 1) c, .slice none 0 0], .nilIface])) w') := Lib.hid (fun hf A c w' hb => by rw [hAR]; exact .inr (.inr (.inl ⟨hf, A, c, by rw [hl], by rw [hl]; exact hb⟩)))
  have HDEL : Hid (∀ (xs : List DT) A c w', partR m sf o fr rs = .inr (some (some (xs.map (·.1)))) → OBM 10 w.heap.size w (.slice A xs.length c) xs.length (flatD rs xs) w' → (∀ x ∈ xs, DOk w rs x w') → AR (.returned (.tuple #[.agg #[.bool false, .slice none 0 0, .slice A xs.length c], .nilIface])) w') := Lib.hid (fun xs A c w' hf hb hx => by rw [hAR]; exact .inr (.inr (.inr ⟨xs, A, c, hf, rfl, hb, hx⟩)))
  have AD := Lib.hid (fun (wx : World) (hb : Below w.heap.size w wx) => admissible_any m o A n c rs wx (h.below hb) hl (by omega) ho hz hm)
  have HP : Hid (partR m sf o fr rs = if admR m o rs = true then (if n = 1 then (if sf (rAt rs 0) = fr then .inr none else .inl 5)
    else if fullR m o rs = true then .inr (some none) else (match deltasR sf fr rs with
      | .inl e => .inl e
      | .inr ts => .inr (some (some ts)))) else .inl 4) := Lib.hid (by unfold partR; rw [hl])
  have HH := Lib.hid h
  have HL := Lib.hid hl
  have HC1 := Lib.hid hc
  have HC2 := Lib.hid hc2
  have HNN := Lib.hid hn
  have HO := Lib.hid ho
  have HZ := Lib.hid hz
  have HMM := Lib.hid hm
  have HSS := Lib.hid hs
  have hZ := Cs.new w #[.bool false, .slice none 0 0, .slice none 0 0] 48 [.bool false, .slice none 0 0, .slice none 0 0]
  have hbZ := (Below.refl w.heap.size w).alloc (Nat.le_refl _) (.cells #[.bool false, .slice none 0 0, .slice none 0 0] 48)
  have H0 := Lib.hid (And.intro hZ hbZ)
  clear h hl hs hAR hm hz ho hc hc2 hn hZ hbZ
  go_enter Tryd.func15, Tryd.ntmps15
  go_upto_region 1 with fail
  obtain ⟨hZ, hbZ⟩ := H0.out
  generalize w.alloc (.cells #[.bool false, .slice none 0 0, .slice none 0 0] 48) = wa at *
  obtain ⟨g, hg⟩ : ∃ g, g = w.heap.size := ⟨_, rfl⟩
  rw [← hg] at hZ ⊢
  have HZA := Lib.hid hZ
  have HG := Lib.hid hg
  have HBA := Lib.hid hbZ
  clear hZ hbZ hg H0
  go_wp2_with fail
  refine (AD.out _ HBA.out).mono ?_
  rintro e wb ⟨rfl, hbb⟩
  have HBB := Lib.hid (below_trans HBA.out HBA.out.size hbb)
  have HCB := Lib.hid (HZA.out.below hbb)
  clear hbb AD
  cases had : admR m o rs with
  | false =>
    have HF := Lib.hid (show partR m sf o fr rs = .inl 4 by rw [HP.out, had]; rfl)
    have HBW := HBB
    have HCW := HCB
    clear had
    have HTH := Lib.hid (HCW.out.there 3 rfl)
    have HM := Lib.hid (HCW.out.mid [.bool false, .slice none 0 0, .slice none 0 0] rfl)
    have HBM := Lib.hid (below_setCells' (B := w.heap.size) (g := g) (by rw [HG.out]; exact Nat.le_refl _) [.bool false, .slice none 0 0, .slice none 0 0] 0 HBW.out)
    go_wp2_with (first | refine wpList_store_mid rfl 48 _ _ rfl g 0 #[.bool false, .slice none 0 0, .slice none 0 0] rfl rfl HTH.out (by kernel_rfl) (by simp [Value.oneCell']) ?_)
    refine bodyPost_ret (v := .tuple #[.agg #[.bool false, .slice none 0 0, .slice none 0 0], .iface 39 (.int .i64 (4 : Nat))]) (results_cellE Tryd.results15 _ _ _ g 0 _ _ rfl HM.out.range Tryd.underlying48 rfl (by kernel_rfl)) rfl ?_
    exact HFAIL.out 4 HF.out _ HBM.out
  | true =>
    have hP2 := HP.out
    rw [had, if_pos rfl] at hP2
    have HP2 := Lib.hid hP2
    have hne : 0 < n := by
      rw [← HL.out]
      match rs, had with
      | _ :: _, _ => simp
    obtain ⟨r, hr⟩ : ∃ r, rs[0]? = some r := ⟨_, List.getElem?_eq_getElem (by rw [HL.out]; exact hne)⟩
    have hsr : soaB r = true := by
      match rs, had, hr with
      | a :: t, had, hr =>
        have e : a = r := by simpa using hr
        unfold admR at had
        rw [Bool.and_eq_true] at had
        rw [← e]; exact had.2
    obtain ⟨bb, off, rfl, hbw, hrg⟩ := HH.out.range hr
    have SE := Lib.hid (HSS.out r (List.mem_of_getElem? hr) hsr)
    have HR0 := Lib.hid (rAt_of hr)
    have HRF : Hid (∀ wx, Below w.heap.size w wx → wx.rangeAt bb off (recCells r)) := Lib.hid (fun wx hb j v hv => (hb.cell (p := ⟨bb, off + j, none⟩) hbw).trans (by have := hrg j v hv; simpa using this))
    have HBL := Lib.hid hbw
    clear had hP2 hr hsr hbw hrg HP
    by_cases h1 : n = 1
    · subst h1
      have hp3 := HP2.out
      rw [if_pos rfl, HR0.out] at hp3
      obtain ⟨SV, hSV⟩ : ∃ S, S = sf r := ⟨_, rfl⟩
      rw [← hSV] at SE hp3
      have HPQ := Lib.hid hp3
      clear hSV HR0 HP2 hp3
      obtain ⟨r0, r1, r2, r3⟩ := r
      unfold recV at SE
      unfold recCells at HRF
      simp only at SE HRF
      have HRB := Lib.hid (HRF.out wb HBB.out)
      go_wp2_with (first | refine wpList_load_midH rfl 32 _ rfl bb off rfl _ _ HRB.out Tryd.underlying32 rfl (by kernel_rfl) ?_)
      refine (SE.out _).mono ?_
      rintro e wc ⟨rfl, hbc⟩
      have HBW := Lib.hid (below_trans HBB.out HBB.out.size hbc)
      have HCW := Lib.hid (HCB.out.below hbc)
      clear hbc SE
      by_cases hsf : SV = fr
      · subst hsf
        have hq : ((SV : Int) == (SV : Int)) = true := by simp
        have hq2 : ((SV : Int) != (SV : Int)) = false := by simp
        have HF := Lib.hid (show partR m sf o SV rs = .inr none by rw [HPQ.out, if_pos rfl])
        have HTH := Lib.hid (HCW.out.there 3 rfl)
        have HM := Lib.hid (HCW.out.mid [.bool true, .slice none 0 0, .slice none 0 0] rfl)
        have HBM := Lib.hid (below_setCells' (B := w.heap.size) (g := g) (by rw [HG.out]; exact Nat.le_refl _) [.bool true, .slice none 0 0, .slice none 0 0] 0 HBW.out)
        go_wp2_with (first | refine wpList_store_mid rfl 48 _ _ rfl g 0 #[.bool true, .slice none 0 0, .slice none 0 0] rfl rfl HTH.out (by kernel_rfl) (by simp [Value.oneCell']) ?_)
        refine bodyPost_ret (v := .tuple #[.agg #[.bool true, .slice none 0 0, .slice none 0 0], .nilIface]) (results_cellE Tryd.results15 _ _ _ g 0 _ _ rfl HM.out.range Tryd.underlying48 rfl (by kernel_rfl)) rfl ?_
        exact HSAME.out HF.out _ HBM.out
      · have hq : ((SV : Int) == (fr : Int)) = false := by rw [beq_eq_false_iff_ne]; omega
        have hq2 : ((SV : Int) != (fr : Int)) = true := by simp [bne, hq]
        have HF := Lib.hid (show partR m sf o fr rs = .inl 5 by rw [HPQ.out, if_neg hsf])
        have HTH := Lib.hid (HCW.out.there 3 rfl)
        have HM := Lib.hid (HCW.out.mid [.bool false, .slice none 0 0, .slice none 0 0] rfl)
        have HBM := Lib.hid (below_setCells' (B := w.heap.size) (g := g) (by rw [HG.out]; exact Nat.le_refl _) [.bool false, .slice none 0 0, .slice none 0 0] 0 HBW.out)
        go_wp2_with (first | refine wpList_store_mid rfl 48 _ _ rfl g 0 #[.bool false, .slice none 0 0, .slice none 0 0] rfl rfl HTH.out (by kernel_rfl) (by simp [Value.oneCell']) ?_)
        refine bodyPost_ret (v := .tuple #[.agg #[.bool false, .slice none 0 0, .slice none 0 0], .iface 39 (.int .i64 (5 : Nat))]) (results_cellE Tryd.results15 _ _ _ g 0 _ _ rfl HM.out.range Tryd.underlying48 rfl (by kernel_rfl)) rfl ?_
        exact HFAIL.out 5 HF.out _ HBM.out
    · have HP3 := HP2.out
      rw [if_neg h1] at HP3
      have HP3 := Lib.hid HP3
      have h2 : 2 ≤ n := by omega
      have FU := Lib.hid (full_any m o bb off n c rs wb (HH.out.below HBB.out) HL.out HNN.out h2 HC1.out HO.out HZ.out (Nat.lt_of_lt_of_le HBL.out HBB.out.size) HMM.out (fun wx hb => by
        have hp := ((HH.out.below HBB.out).below hb).part 0 (n - 1)
        rw [Nat.zero_mul, Nat.add_zero, List.drop_zero] at hp
        have hp2 := hp.sl
        rw [show (rs.take (n - 1)).length = n - 1 by rw [List.length_take, HL.out]; omega] at hp2
        have hn := HNN.out
        exact clone_recs _ _ _ _ _ _ hp2 (flatR_one _) (fun e => by cases e) (by omega)))
      have DS := Lib.hid (fun (wx : World) (hb : Below w.heap.size w wx) => deltas_any sf fr bb off n c rs wx (HH.out.below hb) HL.out HNN.out h2 HC1.out HC2.out HSS.out)
      have hn1 : ((n : Int) == 1) = false := by rw [beq_eq_false_iff_ne]; omega
      have hn1' : ¬ (n : Int) = 1 := by omega
      have FU : Hid (Calls Tryd.prog 11 #[.string o, .slice (some ⟨bb, off, none⟩) n c] wb fun e w' =>
        (fullR m o rs = false ∧ e = .returned (.tuple #[.slice none 0 0, .iface 39 (.int .i64 4)]) ∧ Below wb.heap.size wb w') ∨
        (fullR m o rs = true ∧ ∃ A c, e = .returned (.tuple #[.slice A (n - 1) c, .nilIface]) ∧ OBM 4 wb.heap.size wb (.slice A (n - 1) c) (n - 1) (flatR (rs.take (n - 1))) w')) := Lib.hid (FU.out.mono (by
          rintro e w' (⟨g1, g2, g3⟩ | ⟨g1, v, g2, g3⟩)
          · exact .inl ⟨g1, g2, g3⟩
          · rw [HL.out] at g3
            obtain ⟨A', c', rfl, -⟩ := g3.slice
            exact .inr ⟨g1, A', c', g2, g3⟩))
      have DS : Hid (∀ (wx : World) (hb : Below w.heap.size w wx), Calls Tryd.prog 32 #[.int .u32 (fr : Nat), .slice (some ⟨bb, off, none⟩) n c] wx fun e w' =>
        (∃ er : Nat, deltasR sf fr rs = .inl er ∧ e = .returned (.tuple #[.slice none 0 0, .iface 39 (.int .i64 er)]) ∧ Below wx.heap.size wx w') ∨
        (∃ (xs : List DT) (A : Option Addr) (c : Nat), deltasR sf fr rs = .inr (xs.map (·.1)) ∧ e = .returned (.tuple #[.slice A xs.length c, .nilIface]) ∧ OBM 10 wx.heap.size wx (.slice A xs.length c) xs.length (flatD rs xs) w' ∧ ∀ x ∈ xs, DOk wx rs x w')) := Lib.hid (fun wx hb => (DS.out wx hb).mono (by
          rintro e w' (⟨er, g1, g2, g3⟩ | ⟨ts, xs, v, g1, g2, g3, g4, g5⟩)
          · exact .inl ⟨er, g1, g2, g3⟩
          · subst g2
            obtain ⟨A', c', rfl, -⟩ := g4.slice
            exact .inr ⟨xs, A', c', g1, g3, g4, g5⟩))
      clear h1 h2
      go_wp2_with fail
      refine FU.out.mono ?_
      rintro e wc (⟨hf0, rfl, hbc⟩ | ⟨hf0, A', c', rfl, ho1⟩)
      · have HBC := Lib.hid (below_trans HBB.out HBB.out.size hbc)
        have HCC := Lib.hid (HCB.out.below hbc)
        have hp4 := HP3.out
        rw [hf0, if_neg (by simp)] at hp4
        have HP4 := Lib.hid hp4
        clear hp4
        clear hbc hf0 FU
        go_wp2_with fail
        refine (DS.out _ HBC.out).mono ?_
        rintro e wd (⟨er, hd0, rfl, hbd⟩ | ⟨xs, A', c', hd0, rfl, ho1, hx⟩)
        · have HF := Lib.hid (show partR m sf o fr rs = .inl er by rw [HP4.out, hd0])
          have HBW := Lib.hid (below_trans HBC.out HBC.out.size hbd)
          have HCW := Lib.hid (HCC.out.below hbd)
          clear hd0 hbd DS
          have HTH := Lib.hid (HCW.out.there 3 rfl)
          have HM := Lib.hid (HCW.out.mid [.bool false, .slice none 0 0, .slice none 0 0] rfl)
          have HBM := Lib.hid (below_setCells' (B := w.heap.size) (g := g) (by rw [HG.out]; exact Nat.le_refl _) [.bool false, .slice none 0 0, .slice none 0 0] 0 HBW.out)
          go_wp2_with (first | refine wpList_store_mid rfl 48 _ _ rfl g 0 #[.bool false, .slice none 0 0, .slice none 0 0] rfl rfl HTH.out (by kernel_rfl) (by simp [Value.oneCell']) ?_)
          refine bodyPost_ret (v := .tuple #[.agg #[.bool false, .slice none 0 0, .slice none 0 0], .iface 39 (.int .i64 er)]) (results_cellE Tryd.results15 _ _ _ g 0 _ _ rfl HM.out.range Tryd.underlying48 rfl (by kernel_rfl)) rfl ?_
          exact HFAIL.out er HF.out _ HBM.out
        · have HF := Lib.hid (show partR m sf o fr rs = .inr (some (some (xs.map (·.1)))) by rw [HP4.out, hd0])
          have HBW := Lib.hid (below_trans HBC.out HBC.out.size ho1.bel)
          have HCW := Lib.hid (HCC.out.below ho1.bel)
          have hgl : w.heap.size ≤ g := by rw [HG.out]; exact Nat.le_refl _
          have hgc : g < wc.heap.size := HCC.out.lt
          have hb5 := below_setCells' hgl [.bool false, .slice none 0 0, .slice A' xs.length c'] 0 HBW.out
          have hst := setCells_heap wd g [.bool false, .slice none 0 0, .slice A' xs.length c'] 0
          have O1 := Lib.hid ((ho1.out HBC.out.size HBC.out).block hb5 (by rw [hst.1]; exact Nat.le_refl _) (fun k hk => hst.2 k (fun e => by have := (ho1.lt k hk).1; omega)))
          have OX := Lib.hid (fun x (hm : x ∈ xs) => (show DOk w rs x (wd.setCells g 0 [.bool false, .slice none 0 0, .slice A' xs.length c']) from ⟨((hx x hm).gone.out HBC.out.size HBC.out).block hb5 (by rw [hst.1]; exact Nat.le_refl _) (fun k hk => hst.2 k (fun e => by have := ((hx x hm).gone.lt k hk).1; omega)), ((hx x hm).new.out HBC.out.size HBC.out).block hb5 (by rw [hst.1]; exact Nat.le_refl _) (fun k hk => hst.2 k (fun e => by have := ((hx x hm).new.lt k hk).1; omega))⟩))
          clear hd0 DS hgl hgc hb5 hst ho1 hx
          have HTH := Lib.hid (HCW.out.there 3 rfl)
          have HM := Lib.hid (HCW.out.mid [.bool false, .slice none 0 0, .slice A' xs.length c'] rfl)
          have HBM := Lib.hid (below_setCells' (B := w.heap.size) (g := g) (by rw [HG.out]; exact Nat.le_refl _) [.bool false, .slice none 0 0, .slice A' xs.length c'] 0 HBW.out)
          go_wp2_with (first | refine wpList_store_mid rfl 48 _ _ rfl g 0 #[.bool false, .slice none 0 0, .slice A' xs.length c'] rfl rfl HTH.out (by kernel_rfl) (by simp [Value.oneCell']) ?_)
          refine bodyPost_ret (v := .tuple #[.agg #[.bool false, .slice none 0 0, .slice A' xs.length c'], .nilIface]) (results_cellE Tryd.results15 _ _ _ g 0 _ _ rfl HM.out.range Tryd.underlying48 rfl (by kernel_rfl)) rfl ?_
          exact HDEL.out xs _ _ _ HF.out O1.out OX.out
      · have HF := Lib.hid (show partR m sf o fr rs = .inr (some none) by rw [HP3.out, hf0, if_pos rfl])
        have HBW := Lib.hid (below_trans HBB.out HBB.out.size ho1.bel)
        have HCW := Lib.hid (HCB.out.below ho1.bel)
        have hgl : w.heap.size ≤ g := by rw [HG.out]; exact Nat.le_refl _
        have hgc : g < wb.heap.size := HCB.out.lt
        have hb5 := below_setCells' hgl [.bool false, .slice A' (n - 1) c', .slice none 0 0] 0 HBW.out
        have hst := setCells_heap wc g [.bool false, .slice A' (n - 1) c', .slice none 0 0] 0
        have O1 := Lib.hid ((ho1.out HBB.out.size HBB.out).block hb5 (by rw [hst.1]; exact Nat.le_refl _) (fun k hk => hst.2 k (fun e => by have := (ho1.lt k hk).1; omega)))
        clear hf0 FU hgl hgc hb5 hst ho1
        have HTH := Lib.hid (HCW.out.there 3 rfl)
        have HM := Lib.hid (HCW.out.mid [.bool false, .slice A' (n - 1) c', .slice none 0 0] rfl)
        have HBM := Lib.hid (below_setCells' (B := w.heap.size) (g := g) (by rw [HG.out]; exact Nat.le_refl _) [.bool false, .slice A' (n - 1) c', .slice none 0 0] 0 HBW.out)
        go_wp2_with (first | refine wpList_store_mid rfl 48 _ _ rfl g 0 #[.bool false, .slice A' (n - 1) c', .slice none 0 0] rfl rfl HTH.out (by kernel_rfl) (by simp [Value.oneCell']) ?_)
        refine bodyPost_ret (v := .tuple #[.agg #[.bool false, .slice A' (n - 1) c', .slice none 0 0], .nilIface]) (results_cellE Tryd.results15 _ _ _ g 0 _ _ rfl HM.out.range Tryd.underlying48 rfl (by kernel_rfl)) rfl ?_
        exact HALLR.out HF.out _ _ _ O1.out
end Go.Proofs.YtkpjehplchdmgaaDoor
namespace Go.Proofs.YtkpjehplchdmgaaDoor
open Go.RowKit
set_option linter.unusedVariables false
set_option maxRecDepth 20000

theorem isSoa_no1 {l : List UInt8} (h : ∀ n t, ¬ IsCut l n t) (a b t : List UInt8) : ¬ IsSoa l a b t := fun hs => h _ _ hs.1
theorem isSoa_no2 {l a r : List UInt8} (h1 : IsCut l a r) (h : ∀ n t, ¬ IsCut r n t) (a' b t : List UInt8) : ¬ IsSoa l a' b t := fun hs => by
  obtain ⟨-, h2⟩ := At.one h1 hs.1
  exact h b t ⟨hs.2.1, h2⟩
theorem isSoa_no3 {l a r b t : List UInt8} (h1 : IsCut l a r) (h2 : IsCut r b t) (h : t.length ≠ 20) (a' b' t' : List UInt8) : ¬ IsSoa l a' b' t' := fun hs => by
  obtain ⟨-, h3⟩ := At.one h1 hs.1
  obtain ⟨-, h4⟩ := At.one h2 ⟨hs.2.1, h3⟩
  rw [h4] at h; exact h hs.2.2
theorem isSoa_yes {l a r b t : List UInt8} (h1 : IsCut l a r) (h2 : IsCut r b t) (h : t.length = 20) : IsSoa l a b t := by
  refine ⟨⟨h1.1, ?_⟩, h2.1, h⟩
  rw [← h2.2]; exact h1.2
theorem IsCut.len {l n t : List UInt8} (h : IsCut l n t) : n.length + t.length + 1 = l.length := by rw [h.2]; simp; omega
/-- The value of an SOA. -/
def soaV (a b t : List UInt8) : Value := .agg #[sv a, sv b, .int .u32 (n32 ⟨t.toArray⟩ 0), .int .u32 (n32 ⟨t.toArray⟩ 4), .int .u32 (n32 ⟨t.toArray⟩ 8), .int .u32 (n32 ⟨t.toArray⟩ 12), .int .u32 (n32 ⟨t.toArray⟩ 16)]
def soa0 : Value := .agg #[.string ⟨#[]⟩, .string ⟨#[]⟩, .int .u32 0, .int .u32 0, .int .u32 0, .int .u32 0, .int .u32 0]
theorem number_any (s : ByteArray) (k : Nat) (j : Int) (w : World) (hs : s.size = 20) (hk : k < 5) (hj : j = k) :
    Calls Tryd.prog 63 #[.string s, .int .i64 j] w fun e w' => e = .returned (.int .u32 (n32 s (4 * k))) ∧ ∃ n, w.drewN n = w' := by
  subst hj
  have HG := Lib.hid (fun w => get32_yes s (4 * k) w (by unfold maxLen; omega) (by omega))
  have hi : IntKind.i64.wrap (4 * (k : Int)) = ((4 * k : Nat) : Int) := by rw [IntWalk.i64_in _ (by omega)]; omega
  clear hs hk
  go_enter Tryd.func63, Tryd.ntmps63
  go_wp2_with fail
  refine (HG.out _).mono ?_
  rintro e w1 ⟨rfl, n, rfl⟩
  go_wp2_with fail
  go_ret
  exact ⟨rfl, n, rfl⟩
set_option maxHeartbeats 1600000 in
theorem parse_any (s : ByteArray) (w : World) (hs : s.size ≤ 140737488355328) :
    Calls Tryd.prog 56 #[.string s] w fun e w' => Below w.heap.size w w' ∧ ((∃ a b t, IsSoa s.data.toList a b t ∧ e = .returned (.tuple #[soaV a b t, .bool true])) ∨ ((∀ a b t, ¬ IsSoa s.data.toList a b t) ∧ e = .returned (.tuple #[soa0, .bool false]))) := by
  have hlen : s.data.toList.length = s.size := by simp
  obtain ⟨L, hL⟩ : ∃ L, s.data.toList = L := ⟨_, rfl⟩
  have HC := Lib.hid (fun w => cutp_any s w hs)
  rw [hL] at HC hlen
  rw [hL]
  clear hL
  go_enter Tryd.func56, Tryd.ntmps56
  go_wp2_with fail
  refine (HC.out _).mono ?_
  rintro e w1 ⟨hb1', ⟨a, r, hc1, rfl⟩ | ⟨hno, rfl⟩⟩
  all_goals
    obtain ⟨W, hW⟩ : ∃ W, W = w.alloc (.cells #[.string ⟨#[]⟩, .string ⟨#[]⟩, .int .u32 0, .int .u32 0, .int .u32 0, .int .u32 0, .int .u32 0] 63) := ⟨_, rfl⟩
    rw [← hW] at hb1'
    have hzW : W.heap.size = w.heap.size + 1 := by rw [hW]; simp
    have hBW : Below w.heap.size w W := by rw [hW]; exact (Below.refl _ _).alloc (Nat.le_refl _) _
    have c0 : W.cell? ⟨w.heap.size, 0, none⟩ = some (.string ⟨#[]⟩) := by rw [hW]; simp
    have c1 : W.cell? ⟨w.heap.size, 1, none⟩ = some (.string ⟨#[]⟩) := by rw [hW]; simp
    have c2 : W.cell? ⟨w.heap.size, 2, none⟩ = some (.int .u32 0) := by rw [hW]; simp
    have c3 : W.cell? ⟨w.heap.size, 3, none⟩ = some (.int .u32 0) := by rw [hW]; simp
    have c4 : W.cell? ⟨w.heap.size, 4, none⟩ = some (.int .u32 0) := by rw [hW]; simp
    have c5 : W.cell? ⟨w.heap.size, 5, none⟩ = some (.int .u32 0) := by rw [hW]; simp
    have c6 : W.cell? ⟨w.heap.size, 6, none⟩ = some (.int .u32 0) := by rw [hW]; simp
    have fz : ∀ i, W.frozen? ⟨w.heap.size, i, none⟩ = false := by intro i; rw [hW, World.frozen?_alloc_at _ _ _ _ rfl]
    clear hW
  · have HC1 := Lib.hid hc1
    have hl1 := hc1.len
    have HC2 := Lib.hid (fun w => cutp_any ⟨r.toArray⟩ w (by rw [mk_size]; omega))
    rw [mk_toList] at HC2
    clear hc1
    unfold sv
    go_wp2_with fail
    refine (HC2.out _).mono ?_
    rintro e w2 ⟨hb2', ⟨b, t, hc2, rfl⟩ | ⟨hno, rfl⟩⟩
    all_goals
      have hb2 := below_trans hb1' hb1'.size hb2'
      have d0 := (hb2.cell (p := ⟨w.heap.size, 0, none⟩) (by show w.heap.size < W.heap.size; omega)).trans c0
      have d1 := (hb2.cell (p := ⟨w.heap.size, 1, none⟩) (by show w.heap.size < W.heap.size; omega)).trans c1
      have d2 := (hb2.cell (p := ⟨w.heap.size, 2, none⟩) (by show w.heap.size < W.heap.size; omega)).trans c2
      have d3 := (hb2.cell (p := ⟨w.heap.size, 3, none⟩) (by show w.heap.size < W.heap.size; omega)).trans c3
      have d4 := (hb2.cell (p := ⟨w.heap.size, 4, none⟩) (by show w.heap.size < W.heap.size; omega)).trans c4
      have d5 := (hb2.cell (p := ⟨w.heap.size, 5, none⟩) (by show w.heap.size < W.heap.size; omega)).trans c5
      have d6 := (hb2.cell (p := ⟨w.heap.size, 6, none⟩) (by show w.heap.size < W.heap.size; omega)).trans c6
      have fd : ∀ i, w2.frozen? ⟨w.heap.size, i, none⟩ = false := fun i => (hb2.frozen (p := ⟨w.heap.size, i, none⟩) (by show w.heap.size < W.heap.size; omega)).trans (fz i)
      have hB2 := hBW.trans (hb2.mono hBW.size)
      clear hb2 hb2' hb1' c0 c1 c2 c3 c4 c5 c6 fz hBW
    · unfold sv
      by_cases h20 : t.length = 20
      · have hsz : (ByteArray.mk t.toArray).size = 20 := by rw [mk_size]; exact h20
        have HY := Lib.hid (isSoa_yes HC1.out hc2 h20)
        have N0 := Lib.hid (fun w => number_any ⟨t.toArray⟩ 0 0 w hsz (by omega) rfl)
        have N1 := Lib.hid (fun w => number_any ⟨t.toArray⟩ 1 1 w hsz (by omega) rfl)
        have N2 := Lib.hid (fun w => number_any ⟨t.toArray⟩ 2 2 w hsz (by omega) rfl)
        have N3 := Lib.hid (fun w => number_any ⟨t.toArray⟩ 3 3 w hsz (by omega) rfl)
        have N4 := Lib.hid (fun w => number_any ⟨t.toArray⟩ 4 4 w hsz (by omega) rfl)
        have hne : (((ByteArray.mk t.toArray).size : Int) != 20) = false := by rw [hsz]; decide
        obtain ⟨T, hT⟩ : ∃ T, T = ByteArray.mk t.toArray := ⟨_, rfl⟩
        rw [← hT] at hsz N0 N1 N2 N3 N4 hne ⊢
        have HT := Lib.hid hT
        clear hc2 HC1 HC2 HC h20 hT
        go_wp2_with fail
        refine (N0.out _).mono ?_
        rintro e w3 ⟨rfl, k0, rfl⟩
        go_wp2_with fail
        refine (N1.out _).mono ?_
        rintro e w3 ⟨rfl, k1, rfl⟩
        go_wp2_with fail
        refine (N2.out _).mono ?_
        rintro e w3 ⟨rfl, k2, rfl⟩
        go_wp2_with fail
        refine (N3.out _).mono ?_
        rintro e w3 ⟨rfl, k3, rfl⟩
        go_wp2_with fail
        refine (N4.out _).mono ?_
        rintro e w3 ⟨rfl, k4, rfl⟩
        have hB5 := below_drew hB2 (k0 + k1 + k2 + k3 + k4)
        clear hB2
        go_wp2_with fail
        refine bodyPost_ret (v := .tuple #[.agg #[.string ⟨a.toArray⟩, .string ⟨b.toArray⟩, .int .u32 (n32 T 0), .int .u32 (n32 T 4), .int .u32 (n32 T 8), .int .u32 (n32 T 12), .int .u32 (n32 T 16)], .bool true]) (by simp [results, Tryd.results56, go_sem, d0, d1, d2, d3, d4, d5, d6]) rfl ⟨?_, .inl ⟨a, b, t, HY.out, ?_⟩⟩
        · iterate 7 (refine Below.setCell ?_ (by simp) _)
          exact hB5
        · unfold soaV sv; rw [← HT.out]
      · have hne : (((ByteArray.mk t.toArray).size : Int) != 20) = true := by rw [mk_size]; simp; omega
        have HN := Lib.hid (isSoa_no3 HC1.out hc2 h20)
        generalize ByteArray.mk t.toArray = T at *
        clear hc2 HC1 HC2 HC h20
        go_wp2_with fail
        refine bodyPost_ret (v := .tuple #[soa0, .bool false]) (by simp [soa0, results, Tryd.results56, go_sem, d0, d1, d2, d3, d4, d5, d6]) rfl ⟨?_, .inr ⟨HN.out, rfl⟩⟩
        iterate 7 (refine Below.setCell ?_ (by simp) _)
        exact hB2
    · have HN := Lib.hid (isSoa_no2 HC1.out hno)
      clear HC1 HC2 HC hno
      go_wp2_with fail
      refine bodyPost_ret (v := .tuple #[soa0, .bool false]) (by simp [soa0, results, Tryd.results56, go_sem, d0, d1, d2, d3, d4, d5, d6]) rfl ⟨?_, .inr ⟨HN.out, rfl⟩⟩
      iterate 7 (refine Below.setCell ?_ (by simp) _)
      exact hB2
  · have HN := Lib.hid (isSoa_no1 hno)
    have hb2 := hb1'
    have d0 := (hb2.cell (p := ⟨w.heap.size, 0, none⟩) (by show w.heap.size < W.heap.size; omega)).trans c0
    have d1 := (hb2.cell (p := ⟨w.heap.size, 1, none⟩) (by show w.heap.size < W.heap.size; omega)).trans c1
    have d2 := (hb2.cell (p := ⟨w.heap.size, 2, none⟩) (by show w.heap.size < W.heap.size; omega)).trans c2
    have d3 := (hb2.cell (p := ⟨w.heap.size, 3, none⟩) (by show w.heap.size < W.heap.size; omega)).trans c3
    have d4 := (hb2.cell (p := ⟨w.heap.size, 4, none⟩) (by show w.heap.size < W.heap.size; omega)).trans c4
    have d5 := (hb2.cell (p := ⟨w.heap.size, 5, none⟩) (by show w.heap.size < W.heap.size; omega)).trans c5
    have d6 := (hb2.cell (p := ⟨w.heap.size, 6, none⟩) (by show w.heap.size < W.heap.size; omega)).trans c6
    have fd : ∀ i, w1.frozen? ⟨w.heap.size, i, none⟩ = false := fun i => (hb2.frozen (p := ⟨w.heap.size, i, none⟩) (by show w.heap.size < W.heap.size; omega)).trans (fz i)
    have hB2 := hBW.trans (hb2.mono hBW.size)
    clear hb2 hb1' c0 c1 c2 c3 c4 c5 c6 fz hBW HC hno
    go_wp2_with fail
    refine bodyPost_ret (v := .tuple #[soa0, .bool false]) (by simp [soa0, results, Tryd.results56, go_sem, d0, d1, d2, d3, d4, d5, d6]) rfl ⟨?_, .inr ⟨HN.out, rfl⟩⟩
    iterate 7 (refine Below.setCell ?_ (by simp) _)
    exact hB2
end Go.Proofs.YtkpjehplchdmgaaDoor
namespace Go.Proofs.YtkpjehplchdmgaaDoor
open Go.RowKit
set_option linter.unusedVariables false
set_option maxRecDepth 20000

/-- The data of an SOA of two names and numbers. -/
def dataL (a b : List UInt8) (ns : List Nat) : List UInt8 := a ++ 0 :: (b ++ 0 :: ns.flatMap b32)
theorem b32_len (ns : List Nat) : (ns.flatMap b32).length = 4 * ns.length := by
  induction ns with
  | nil => rfl
  | cons x l ih => simp only [List.flatMap_cons, List.length_append, ih, List.length_cons]; simp [b32]; omega
set_option maxHeartbeats 3200000 in
theorem sdata_any (a b : ByteArray) (n1 n2 n3 n4 n5 : Nat) (w : World) (ha : a.size ≤ 140737488355328) (hb : b.size ≤ 140737488355328) (h1 : n1 < 4294967296) (h2 : n2 < 4294967296) (h3 : n3 < 4294967296) (h4 : n4 < 4294967296) (h5 : n5 < 4294967296) :
    Calls Tryd.prog 20 #[.agg #[.string a, .string b, .int .u32 n1, .int .u32 n2, .int .u32 n3, .int .u32 n4, .int .u32 n5]] w fun e w' => Below w.heap.size w w' ∧
      (((mayL a.data.toList ∧ mayL b.data.toList) ∧ e = .returned (.tuple #[sv (dataL a.data.toList b.data.toList [n1, n2, n3, n4, n5]), .bool true])) ∨ (¬ (mayL a.data.toList ∧ mayL b.data.toList) ∧ e = .returned (.tuple #[.string ⟨#[]⟩, .bool false]))) := by
  have ma := fun w => may_any a w (by unfold maxLen; omega)
  have mb := fun w => may_any b w (by unfold maxLen; omega)
  have ea := may_mayL a
  have eb := may_mayL b
  have EA := Lib.hid ea
  have EB := Lib.hid eb
  clear ea eb
  cases hma : (labelsOf a).isSome with
  | false =>
    rw [hma] at ma EA
    have MA := Lib.hid ma
    clear ma mb hma
    go_enter Tryd.func20, Tryd.ntmps20
    go_wp2_with fail
    refine (MA.out _).mono ?_
    rintro e w1 ⟨rfl, hb1⟩
    have hB1 := below_alloc _ (Below.refl _ _) (Nat.le_refl _) hb1
    go_wp2_with fail
    go_ret2
    exact ⟨hB1, .inr ⟨(fun h => by have := EA.out.2 h.1; cases this), rfl⟩⟩
  | true =>
  cases hmb : (labelsOf b).isSome with
  | false =>
    rw [hma] at ma EA
    rw [hmb] at mb EB
    have MA := Lib.hid ma
    have MB := Lib.hid mb
    clear ma mb hma hmb
    go_enter Tryd.func20, Tryd.ntmps20
    go_wp2_with fail
    refine (MA.out _).mono ?_
    rintro e w1 ⟨rfl, hb1⟩
    have c1 := (hb1.cell (p := ⟨w.heap.size, 1, none⟩) (by simp)).trans (show _ = some (.string b) by simp)
    have hB1 := below_alloc _ (Below.refl _ _) (Nat.le_refl _) hb1
    clear hb1
    go_wp2_with fail
    refine (MB.out _).mono ?_
    rintro e w2 ⟨rfl, hb2⟩
    have hB2 := below_trans hB1 hB1.size hb2
    go_wp2_with fail
    go_ret2
    exact ⟨hB2, .inr ⟨(fun h => by have := EB.out.2 h.2; cases this), rfl⟩⟩
  | true =>
    have HH := Lib.hid (And.intro (EA.out.1 hma) (EB.out.1 hmb))
    rw [hma] at ma
    rw [hmb] at mb
    have sa : a.size ≤ 254 := by have := mayL_wire HH.out.1; obtain ⟨_, _, _, h⟩ := this; simpa using h
    have sb : b.size ≤ 254 := by have := mayL_wire HH.out.2; obtain ⟨_, _, _, h⟩ := this; simpa using h
    have MA := Lib.hid ma
    have MB := Lib.hid mb
    clear ma mb hma hmb EA EB
    go_enter Tryd.func20, Tryd.ntmps20
    go_wp2_with fail
    refine (MA.out _).mono ?_
    rintro e w1 ⟨rfl, hb1⟩
    obtain ⟨W, hW⟩ : ∃ W, W = w.alloc (.cells #[.string a, .string b, .int .u32 n1, .int .u32 n2, .int .u32 n3, .int .u32 n4, .int .u32 n5] 63) := ⟨_, rfl⟩
    rw [← hW] at hb1
    have hzW : W.heap.size = w.heap.size + 1 := by rw [hW]; simp
    have hBW : Below w.heap.size w W := by rw [hW]; exact (Below.refl _ _).alloc (Nat.le_refl _) _
    have c0 : W.cell? ⟨w.heap.size, 0, none⟩ = some (.string a) := by rw [hW]; simp
    have c1 : W.cell? ⟨w.heap.size, 1, none⟩ = some (.string b) := by rw [hW]; simp
    have c2 : W.cell? ⟨w.heap.size, 2, none⟩ = some (.int .u32 n1) := by rw [hW]; simp
    have c3 : W.cell? ⟨w.heap.size, 3, none⟩ = some (.int .u32 n2) := by rw [hW]; simp
    have c4 : W.cell? ⟨w.heap.size, 4, none⟩ = some (.int .u32 n3) := by rw [hW]; simp
    have c5 : W.cell? ⟨w.heap.size, 5, none⟩ = some (.int .u32 n4) := by rw [hW]; simp
    have c6 : W.cell? ⟨w.heap.size, 6, none⟩ = some (.int .u32 n5) := by rw [hW]; simp
    clear hW
    have d1 := (hb1.cell (p := ⟨w.heap.size, 1, none⟩) (by show w.heap.size < W.heap.size; omega)).trans c1
    go_wp2_with fail
    clear d1
    refine (MB.out _).mono ?_
    rintro e w2 ⟨rfl, hb2⟩
    have hb := below_trans hb1 hb1.size hb2
    have d0 := (hb.cell (p := ⟨w.heap.size, 0, none⟩) (by show w.heap.size < W.heap.size; omega)).trans c0
    have d1 := (hb.cell (p := ⟨w.heap.size, 1, none⟩) (by show w.heap.size < W.heap.size; omega)).trans c1
    have d2 := (hb.cell (p := ⟨w.heap.size, 2, none⟩) (by show w.heap.size < W.heap.size; omega)).trans c2
    have d3 := (hb.cell (p := ⟨w.heap.size, 3, none⟩) (by show w.heap.size < W.heap.size; omega)).trans c3
    have d4 := (hb.cell (p := ⟨w.heap.size, 4, none⟩) (by show w.heap.size < W.heap.size; omega)).trans c4
    have d5 := (hb.cell (p := ⟨w.heap.size, 5, none⟩) (by show w.heap.size < W.heap.size; omega)).trans c5
    have d6 := (hb.cell (p := ⟨w.heap.size, 6, none⟩) (by show w.heap.size < W.heap.size; omega)).trans c6
    have hB2 := hBW.trans (hb.mono hBW.size)
    have hz2 := hb.size
    clear hb1 hb2 hb hBW c0 c1 c2 c3 c4 c5 c6
    go_wp2_with fail
    refine (put32_any none 0 0 [] _ 5 5 [n1, n2, n3, n4, n5] _ (Sl.nil _ _ _ _) (fun _ => ⟨rfl, rfl⟩) (Sl.fresh _ _ _ _ _ rfl rfl) (by simp; omega) (by omega)).mono ?_
    rintro e w3 ⟨g, rfl, hown, hb3⟩
    have hz2' := hB2.size
    have e0 := (hb3.cell (p := ⟨w.heap.size, 0, none⟩) (by simp; omega)).trans ((World.cell?_alloc_lt w2 _ _ (by show w.heap.size < w2.heap.size; omega)).trans d0)
    have e1 := (hb3.cell (p := ⟨w.heap.size, 1, none⟩) (by simp; omega)).trans ((World.cell?_alloc_lt w2 _ _ (by show w.heap.size < w2.heap.size; omega)).trans d1)
    have hB3 := below_alloc _ hB2 hz2' hb3
    clear d0 d1 d2 d3 d4 d5 d6 hb3 hB2
    have pa := fun w => plain_any a w (by omega)
    have pb := fun w => plain_any b w (by omega)
    unfold sv at pa pb
    have hcv := fun k => run_string_own (P := Tryd.prog) (w3.drewN k) 43 9 5 _ _ _ _ _ Tryd.underlying43 Tryd.underlying5 Tryd.underlying9 (show World.ownsRow (w3.drewN k) _ _ _ _ _ _ from hown)
    have hlT : ([] ++ List.flatMap b32 [n1, n2, n3, n4, n5]).length = 20 := by rw [List.nil_append, b32_len]; rfl
    obtain ⟨L, hL⟩ : ∃ L, [] ++ List.flatMap b32 [n1, n2, n3, n4, n5] = L := ⟨_, rfl⟩
    rw [hL] at hcv hlT
    obtain ⟨A1, hA1⟩ : ∃ A1, A1 = (ByteArray.mk (a.data.toList ++ [0]).toArray) := ⟨_, rfl⟩
    obtain ⟨B1, hB1⟩ : ∃ B1, B1 = (ByteArray.mk (b.data.toList ++ [0]).toArray) := ⟨_, rfl⟩
    obtain ⟨T, hT⟩ : ∃ T, T = (ByteArray.mk L.toArray) := ⟨_, rfl⟩
    rw [← hA1] at pa
    rw [← hB1] at pb
    rw [← hT] at hcv
    have sA : A1.size = a.size + 1 := by rw [hA1, mk_size]; simp
    have sB : B1.size = b.size + 1 := by rw [hB1, mk_size]; simp
    have sT : T.size = 20 := by rw [hT, mk_size]; exact hlT
    have hfin : Value.string (A1 ++ B1 ++ T) = sv (dataL a.data.toList b.data.toList [n1, n2, n3, n4, n5]) := by
      rw [hA1, hB1, hT, ← hL, sv_append]
      unfold sv dataL
      simp
    have HF := Lib.hid hfin
    have PA := Lib.hid pa
    have PB := Lib.hid pb
    have q1 : ¬ 9223372036854775807 < A1.size + B1.size := by omega
    have q2 : ¬ 9223372036854775807 < A1.size + B1.size + T.size := by omega
    have q3 : ¬ 9223372036854775807 < (A1 ++ B1).size + T.size := by rw [ByteArray.size_append]; omega
    clear hown hA1 hB1 hT hL hlT hfin pa pb sA sB sT
    go_wp2_with fail
    go_quiet ((go_at_call 38; first | exact Calls.quiet_of_same ((PA.out _).mono fun e w' ⟨a, b⟩ => ⟨a, b.symm⟩) | exact Calls.quiet_of_same ((PB.out _).mono fun e w' ⟨a, b⟩ => ⟨a, b.symm⟩)))
    go_wp2_with fail
    go_ret2
    exact ⟨below_drew hB3 _, .inl ⟨HH.out, by rw [← HF.out]; rfl⟩⟩
end Go.Proofs.YtkpjehplchdmgaaDoor
namespace Go.Proofs.YtkpjehplchdmgaaDoor
open Go.RowKit
set_option linter.unusedVariables false
theorem nameZ_may (zs : List Int) (hz : ∀ z ∈ zs, 0 ≤ z ∧ z < 256) : mayL (nameZ zs) := by
  have h := few_labels (wordsZ_ok zs hz) (wordsZ_len zs)
  unfold mayL
  unfold labelsOf at h
  rw [show (ByteArray.mk (wire (wordsZ zs)).toArray).data.toList = wire (wordsZ zs) by simp] at h
  unfold nameZ
  rw [h]; rfl
theorem nameZ_len (zs : List Int) (hz : ∀ z ∈ zs, 0 ≤ z ∧ z < 256) : (nameZ zs).length ≤ 84 := by
  have := few_wire (wordsZ zs) (fun x hx => (wordsZ_ok zs hz x hx).2.2)
  have h2 := wordsZ_len zs
  unfold nameZ; omega
end Go.Proofs.YtkpjehplchdmgaaDoor
namespace Go.Proofs.YtkpjehplchdmgaaDoor
open Go.RowKit
set_option linter.unusedVariables false
set_option linter.unusedSimpArgs false
set_option maxRecDepth 20000
set_option maxHeartbeats 800000 in
theorem make7_gen (A : Option Addr) (n c : Nat) (zs : List Int) (w : World) (hA : Sl w w.heap.size 1 A n (zs.map (Value.int .u8))) (hz : ∀ z ∈ zs, 0 ≤ z ∧ z < 256) (hn : n ≤ 140737488355328) (s r y e : Nat) (hs : s < 4294967296) (hr : r < 256) (hy : y < 256) (he : e < 256) :
    Calls Tryd.prog 25 #[.slice A n c, .int .u32 s, .int .u8 r, .int .u8 y, .int .u8 e] w fun ex w' => ex = .returned (sv (dataL (nameZ zs) (nameZ zs) [s, r, y, e, 1])) ∧ Below w.heap.size w w' := by
  have NA := Lib.hid (name_any A n c zs w hA hz (by unfold maxLen; omega))
  have lN := nameZ_len zs hz
  generalize nameZ zs = X at *
  obtain ⟨N, hN⟩ : ∃ N, N = ByteArray.mk X.toArray := ⟨_, rfl⟩
  have nX : N.data.toList = X := by rw [hN, mk_toList]
  have sN : N.size ≤ 84 := by rw [hN, mk_size]; exact lN
  unfold sv at NA
  rw [← hN] at NA
  have i1 : IntKind.u32.wrap (r : Int) = r := by rw [IntKind.wrap_u32']; omega
  have i2 : IntKind.u32.wrap (y : Int) = y := by rw [IntKind.wrap_u32']; omega
  have i3 : IntKind.u32.wrap (e : Int) = e := by rw [IntKind.wrap_u32']; omega
  have q1 : ¬ 9223372036854775807 < N.size + 1 := by omega
  have q2 : ¬ 9223372036854775807 < N.size + 1 + N.size := by omega
  have q3 : ¬ 9223372036854775807 < N.size + 1 + N.size + 1 := by omega
  have q4 : ¬ 9223372036854775807 < N.size + 1 + N.size + 1 + 20 := by omega
  clear hN hA hz lN
  go_enter Tryd.func25, Tryd.ntmps25
  go_wp2_with fail
  refine NA.out.mono ?_
  rintro ex w1 ⟨rfl, hb1⟩
  clear NA
  go_wp2_with fail
  refine (put32_any none 0 0 [] _ 5 5 [s, r, y, e, 1] _ (Sl.nil _ _ _ _) (fun _ => ⟨rfl, rfl⟩) (Sl.fresh _ _ _ _ _ rfl rfl) (by simp; omega) (by omega)).mono ?_
  rintro ex w3 ⟨g, rfl, hown, hb3⟩
  have hB3 := below_alloc _ hb1 hb1.size hb3
  have hcv := run_string_own (P := Tryd.prog) w3 43 9 5 _ _ _ _ _ Tryd.underlying43 Tryd.underlying5 Tryd.underlying9 hown
  have hlT : ([] ++ List.flatMap b32 [s, r, y, e, 1]).length = 20 := by rw [List.nil_append, b32_len]; rfl
  obtain ⟨L, hL⟩ : ∃ L, [] ++ List.flatMap b32 [s, r, y, e, 1] = L := ⟨_, rfl⟩
  rw [hL] at hcv hlT
  obtain ⟨T, hT⟩ : ∃ T, T = (ByteArray.mk L.toArray) := ⟨_, rfl⟩
  rw [← hT] at hcv
  have sT : T.size = 20 := by rw [hT, mk_size]; exact hlT
  have hfin : Value.string (N ++ ⟨#[0]⟩ ++ N ++ ⟨#[0]⟩ ++ T) = sv (dataL X X [s, r, y, e, 1]) := by
    rw [hT, ← hL, sv_append]
    unfold sv dataL
    simp [nX]
  have HF := Lib.hid hfin
  have q5 : ¬ 9223372036854775807 < (N ++ ⟨#[0]⟩ ++ N ++ ⟨#[0]⟩ : ByteArray).size + T.size := by simp only [ByteArray.size_append]; show ¬ _ < N.size + 1 + N.size + 1 + T.size; omega
  have q6 : ¬ 9223372036854775807 < N.size + 1 + N.size + 1 + T.size := by omega
  clear hown hT hL hlT hfin sT nX
  go_wp2_with fail
  go_ret
  exact ⟨by rw [← HF.out]; rfl, hB3⟩

/-- The data of a zone's SOA of a serial number. -/
def soaD (n : Nat) : ByteArray := ⟨(dataL (nameZ []) (nameZ []) [n, 10, 3, 40, 1]).toArray⟩
/-- A zone's SOA. -/
def soaR (o : ByteArray) (n : Nat) : RecT := (o, 6, 9, soaD n)
/-- A zone's name, by a number. -/
def originB (n : Nat) : ByteArray := ⟨(nameZ [((n % 6 : Nat) : Int)]).toArray⟩
set_option maxHeartbeats 1600000 in
theorem soa9_any (o : ByteArray) (n : Nat) (hn : n < 4294967296) (w : World) : Calls Tryd.prog 10 #[.string o, .int .u32 (n : Nat)] w fun e w' => e = .returned (recV (soaR o n)) ∧ Below w.heap.size w w' := by
  have MK : Hid (∀ w, Calls Tryd.prog 25 #[.slice none 0 0, .int .u32 (n : Nat), .int .u8 10, .int .u8 3, .int .u8 40] w fun e w' => e = .returned (.string (soaD n)) ∧ Below w.heap.size w w') :=
    Lib.hid (fun w => make7_gen none 0 0 [] w (Sl.nil _ _ _ _) (by simp) (by omega) n 10 3 40 hn (by omega) (by omega) (by omega))
  unfold soaR recV
  simp only
  generalize soaD n = D at *
  have hb := (Below.refl w.heap.size w).alloc (Nat.le_refl _) (.cells #[.string ⟨#[]⟩, .int .u16 0, .int .u32 0, .string ⟨#[]⟩] 32)
  have hC := Cs.new w #[.string ⟨#[]⟩, .int .u16 0, .int .u32 0, .string ⟨#[]⟩] 32 [.string ⟨#[]⟩, .int .u16 0, .int .u32 0, .string ⟨#[]⟩]
  have H0 := Lib.hid (And.intro hb hC)
  clear hb hC
  go_enter Tryd.func10, Tryd.ntmps10
  go_wp2_with fail
  refine (MK.out _).mono ?_
  rintro e w1 ⟨rfl, hb1⟩
  have hC1 := H0.out.2.below hb1
  have HTH := Lib.hid (hC1.there 4 rfl)
  have HM := Lib.hid (hC1.mid [.string o, .int .u16 6, .int .u32 9, .string D] rfl)
  have HBM := Lib.hid (below_setCells' (B := w.heap.size) (g := w.heap.size) (Nat.le_refl _) [.string o, .int .u16 6, .int .u32 9, .string D] 0 (below_trans H0.out.1 H0.out.1.size hb1))
  clear hb1 hC1
  go_wp2_with (first | refine wpList_store_mid rfl 32 _ _ rfl w.heap.size 0 #[.string o, .int .u16 6, .int .u32 9, .string D] rfl rfl HTH.out (by kernel_rfl) (by simp [Value.oneCell']) ?_)
  exact bodyPost_ret (v := .agg #[.string o, .int .u16 6, .int .u32 9, .string D]) (results_cell1 Tryd.results10 _ _ _ w.heap.size 0 _ _ rfl HM.out.range Tryd.underlying32 rfl (by kernel_rfl)) rfl ⟨rfl, HBM.out⟩
set_option maxHeartbeats 1600000 in
theorem origin_any (n : Nat) (hn : n < 256) (w : World) : Calls Tryd.prog 8 #[.int .u8 (n : Nat)] w fun e w' => e = .returned (.string (originB n)) ∧ Below w.heap.size w w' := by
  have hm : (n : Int).tmod 6 = ((n % 6 : Nat) : Int) := by rw [Int.tmod_eq_emod_of_nonneg (by omega)]; omega
  have NM : Hid (Calls Tryd.prog 22 #[.slice (some ⟨w.heap.size, 0, none⟩) 1 1] (w.alloc (.cells #[.int .u8 ((n % 6 : Nat) : Int)] 5)) fun e w' => e = .returned (.string (originB n)) ∧ Below (w.alloc (.cells #[.int .u8 ((n % 6 : Nat) : Int)] 5)).heap.size (w.alloc (.cells #[.int .u8 ((n % 6 : Nat) : Int)] 5)) w') :=
    Lib.hid (name_any (some ⟨w.heap.size, 0, none⟩) 1 1 [((n % 6 : Nat) : Int)] _ (Sl.fresh _ _ _ 1 _ rfl rfl) (by intro z hz; rw [List.mem_singleton] at hz; subst hz; omega) (by decide))
  generalize originB n = O at *
  obtain ⟨q, hq⟩ : ∃ q : Nat, q = n % 6 := ⟨_, rfl⟩
  rw [← hq] at hm NM
  clear hq
  go_enter Tryd.func8, Tryd.ntmps8
  go_wp2_with fail
  refine NM.out.mono ?_
  rintro e w1 ⟨rfl, hb1⟩
  have HB := Lib.hid (below_alloc _ (Below.refl w.heap.size w) (Nat.le_refl _) hb1)
  clear hb1
  go_wp2_with fail
  go_ret
  exact ⟨rfl, HB.out⟩
end Go.Proofs.YtkpjehplchdmgaaDoor
namespace Go.Proofs.YtkpjehplchdmgaaDoor
open Go.RowKit
set_option linter.unusedVariables false
set_option maxRecDepth 20000

set_option maxHeartbeats 800000 in
theorem cutSoa_any (s : ByteArray) (w : World) (hs : s.size ≤ 140737488355328) :
    Calls Tryd.prog 58 #[.string s] w fun e w' => Below w.heap.size w w' ∧ ((∃ a b t, IsSoa s.data.toList a b t ∧ e = .returned (.tuple #[sv a, sv b, sv t, .bool true])) ∨ ((∀ a b t, ¬ IsSoa s.data.toList a b t) ∧ e = .returned (.tuple #[.string ⟨#[]⟩, .string ⟨#[]⟩, .string ⟨#[]⟩, .bool false]))) := by
  have hlen : s.data.toList.length = s.size := by simp
  obtain ⟨L, hL⟩ : ∃ L, s.data.toList = L := ⟨_, rfl⟩
  have HC := Lib.hid (fun w => cutp_any s w hs)
  rw [hL] at HC hlen
  rw [hL]
  clear hL
  go_enter Tryd.func58, Tryd.ntmps58
  go_wp2_with fail
  refine (HC.out _).mono ?_
  rintro e w1 ⟨hb1, ⟨a, r, hc1, rfl⟩ | ⟨hno, rfl⟩⟩
  · have HC1 := Lib.hid hc1
    have hl1 := hc1.len
    have HC2 := Lib.hid (fun w => cutp_any ⟨r.toArray⟩ w (by rw [mk_size]; omega))
    rw [mk_toList] at HC2
    clear hc1
    unfold sv
    go_wp2_with fail
    refine (HC2.out _).mono ?_
    rintro e w2 ⟨hb2', ⟨b, t, hc2, rfl⟩ | ⟨hno, rfl⟩⟩
    all_goals have hb2 := below_trans hb1 hb1.size hb2'
    · unfold sv
      by_cases h20 : t.length = 20
      · have hsz : (ByteArray.mk t.toArray).size = 20 := by rw [mk_size]; exact h20
        have HY := Lib.hid (isSoa_yes HC1.out hc2 h20)
        have hne : (((ByteArray.mk t.toArray).size : Int) != 20) = false := by rw [hsz]; decide
        obtain ⟨T, hT⟩ : ∃ T, T = ByteArray.mk t.toArray := ⟨_, rfl⟩
        rw [← hT] at hsz hne ⊢
        have HT := Lib.hid hT
        clear hc2 HC1 HC2 HC h20 hT
        go_wp2_with fail
        refine bodyPost_ret (v := .tuple #[.string ⟨a.toArray⟩, .string ⟨b.toArray⟩, .string T, .bool true]) (by simp [results, Tryd.results58, go_sem]) rfl ⟨hb2, .inl ⟨a, b, t, HY.out, ?_⟩⟩
        rw [HT.out]; rfl
      · have hne : (((ByteArray.mk t.toArray).size : Int) != 20) = true := by rw [mk_size]; simp; omega
        have HN := Lib.hid (isSoa_no3 HC1.out hc2 h20)
        generalize ByteArray.mk t.toArray = T at *
        clear hc2 HC1 HC2 HC h20
        go_wp2_with fail
        refine bodyPost_ret (v := .tuple #[.string ⟨#[]⟩, .string ⟨#[]⟩, .string ⟨#[]⟩, .bool false]) (by simp [results, Tryd.results58, go_sem]) rfl ⟨hb2, .inr ⟨HN.out, rfl⟩⟩
    · have HN := Lib.hid (isSoa_no2 HC1.out hno)
      clear HC1 HC2 HC hno
      go_wp2_with fail
      refine bodyPost_ret (v := .tuple #[.string ⟨#[]⟩, .string ⟨#[]⟩, .string ⟨#[]⟩, .bool false]) (by simp [results, Tryd.results58, go_sem]) rfl ⟨hb2, .inr ⟨HN.out, rfl⟩⟩
  · have HN := Lib.hid (isSoa_no1 hno)
    clear HC hno
    go_wp2_with fail
    refine bodyPost_ret (v := .tuple #[.string ⟨#[]⟩, .string ⟨#[]⟩, .string ⟨#[]⟩, .bool false]) (by simp [results, Tryd.results58, go_sem]) rfl ⟨hb1, .inr ⟨HN.out, rfl⟩⟩
theorem rmay_soa (s : ByteArray) (w : World) (hs : s.size ≤ 140737488355328) :
    Calls Tryd.prog 49 #[.int .u16 6, .string s] w fun e w' => Below w.heap.size w w' ∧ (((∃ a b t, IsSoa s.data.toList a b t) ∧ e = .returned (.bool true)) ∨ ((∀ a b t, ¬ IsSoa s.data.toList a b t) ∧ e = .returned (.bool false))) := by
  have HC := Lib.hid (fun w => cutSoa_any s w hs)
  go_enter Tryd.func49, Tryd.ntmps49
  go_wp2_with fail
  refine (HC.out _).mono ?_
  rintro e w1 ⟨hb1, ⟨a, b, t, hy, rfl⟩ | ⟨hno, rfl⟩⟩
  · have HY := Lib.hid hy
    clear hy
    unfold sv
    go_wp2_with fail
    go_ret
    exact ⟨hb1, .inl ⟨⟨a, b, t, HY.out⟩, rfl⟩⟩
  · have HN := Lib.hid hno
    clear hno
    go_wp2_with fail
    go_ret
    exact ⟨hb1, .inr ⟨HN.out, rfl⟩⟩
end Go.Proofs.YtkpjehplchdmgaaDoor
namespace Go.Proofs.YtkpjehplchdmgaaDoor
open Go.RowKit
set_option linter.unusedVariables false
set_option maxRecDepth 20000

theorem at8_mk (t : List UInt8) (i : Nat) (h : i < t.length) : at8 ⟨t.toArray⟩ i = (t[i]).toNat := by
  unfold at8; simp [List.getD_eq_getElem?_getD, List.getElem?_eq_getElem h]
theorem n32_lt (s : ByteArray) (a : Nat) : n32 s a < 4294967296 := by
  have h1 := at8_lt s a; have h2 := at8_lt s (a + 1); have h3 := at8_lt s (a + 2); have h4 := at8_lt s (a + 3)
  unfold n32; omega
theorem b32_n32 (t : List UInt8) (a : Nat) (h : a + 4 ≤ t.length) : b32 (n32 ⟨t.toArray⟩ a) = (t.drop a).take 4 := by
  have h0 := at8_mk t a (by omega)
  have h1 := at8_mk t (a + 1) (by omega)
  have h2 := at8_mk t (a + 2) (by omega)
  have h3 := at8_mk t (a + 3) (by omega)
  have l0 := (t[a]'(by omega)).toNat_lt
  have l1 := (t[a+1]'(by omega)).toNat_lt
  have l2 := (t[a+2]'(by omega)).toNat_lt
  have l3 := (t[a+3]'(by omega)).toNat_lt
  have hd : (t.drop a).take 4 = [t[a]'(by omega), t[a+1]'(by omega), t[a+2]'(by omega), t[a+3]'(by omega)] := by
    rw [List.drop_eq_getElem_cons (by omega), List.drop_eq_getElem_cons (by omega), List.drop_eq_getElem_cons (by omega), List.drop_eq_getElem_cons (by omega)]; rfl
  rw [hd]
  unfold b32 n32
  rw [h0, h1, h2, h3]
  have key : ∀ (x : UInt8) (m : Nat), m = x.toNat → UInt8.ofNat m = x := by rintro x m rfl; simp
  simp only [List.cons.injEq, and_true]
  refine ⟨key _ _ ?_, key _ _ ?_, key _ _ ?_, key _ _ ?_⟩ <;> omega
/-- The five numbers of twenty bytes. -/
def nums (t : List UInt8) : List Nat := [n32 ⟨t.toArray⟩ 0, n32 ⟨t.toArray⟩ 4, n32 ⟨t.toArray⟩ 8, n32 ⟨t.toArray⟩ 12, n32 ⟨t.toArray⟩ 16]
theorem nums_bytes (t : List UInt8) (h : t.length = 20) : (nums t).flatMap b32 = t := by
  unfold nums
  simp only [List.flatMap_cons, List.flatMap_nil, List.append_nil]
  rw [b32_n32 t 0 (by omega), b32_n32 t 4 (by omega), b32_n32 t 8 (by omega), b32_n32 t 12 (by omega), b32_n32 t 16 (by omega)]
  have e : ∀ a, t.drop a = (t.drop a).take 4 ++ t.drop (a + 4) := fun a => by rw [← List.drop_drop]; exact (List.take_append_drop 4 _).symm
  have e5 : (t.drop 16).take 4 = t.drop 16 := List.take_of_length_le (by simp; omega)
  rw [e5, ← e 12, ← e 8, ← e 4, ← e 0, List.drop_zero]
theorem dataL_soa {l a b t : List UInt8} (h : IsSoa l a b t) : dataL a b (nums t) = l := by
  unfold dataL
  rw [nums_bytes t h.2.2]
  exact h.1.2.symm
end Go.Proofs.YtkpjehplchdmgaaDoor
namespace Go.Proofs.YtkpjehplchdmgaaDoor
open Go.RowKit
set_option linter.unusedVariables false
set_option maxRecDepth 20000

theorem b32_inj {x y : Nat} (hx : x < 4294967296) (hy : y < 4294967296) (h : b32 x = b32 y) : x = y := by
  have key : ∀ n : Nat, n < 4294967296 → (b32 n).map (·.toNat) = [n / 16777216, n / 65536 % 256, n / 256 % 256, n % 256] := by
    intro n hn
    unfold b32
    simp only [List.map_cons, List.map_nil]
    rw [ofNat_small _ (by omega), ofNat_small _ (by omega), ofNat_small _ (by omega), ofNat_small _ (by omega)]
  have h2 := congrArg (List.map (·.toNat)) h
  rw [key x hx, key y hy] at h2
  simp only [List.cons.injEq, and_true] at h2
  omega
theorem flat_inj : ∀ (xs ys : List Nat), xs.length = ys.length → (∀ x ∈ xs, x < 4294967296) → (∀ y ∈ ys, y < 4294967296) → xs.flatMap b32 = ys.flatMap b32 → xs = ys
  | [], [], _, _, _, _ => rfl
  | x :: xs, y :: ys, hl, hx, hy, h => by
    simp only [List.flatMap_cons] at h
    obtain ⟨h1, h2⟩ := List.append_inj h (by simp [b32])
    rw [b32_inj (hx x (by simp)) (hy y (by simp)) h1, flat_inj xs ys (by simpa using hl) (fun z hz => hx z (by simp [hz])) (fun z hz => hy z (by simp [hz])) h2]
theorem isSoa_data {a b : List UInt8} {ns : List Nat} (ha : mayL a) (hb : mayL b) (hn : ns.length = 5) : IsSoa (dataL a b ns) a b (ns.flatMap b32) := ⟨⟨ha, rfl⟩, hb, by rw [b32_len, hn]⟩
theorem dataL_inj {a b a' b' : List UInt8} {ns ns' : List Nat} (ha : mayL a) (hb : mayL b) (ha' : mayL a') (hb' : mayL b') (hn : ns.length = 5) (hn' : ns'.length = 5) (hx : ∀ x ∈ ns, x < 4294967296) (hy : ∀ x ∈ ns', x < 4294967296)
    (h : dataL a b ns = dataL a' b' ns') : a = a' ∧ b = b' ∧ ns = ns' := by
  have h1 := isSoa_data (ns := ns) ha hb hn
  rw [h] at h1
  obtain ⟨e1, e2, e3⟩ := h1.one (isSoa_data ha' hb' hn')
  exact ⟨e1, e2, flat_inj _ _ (by omega) hx hy e3⟩
end Go.Proofs.YtkpjehplchdmgaaDoor
namespace Go.Proofs.YtkpjehplchdmgaaDoor
open Go.RowKit
set_option linter.unusedVariables false
set_option maxRecDepth 20000

theorem soaV_data {a b : List UInt8} {n1 n2 n3 n4 n5 : Nat} (ha : mayL a) (hb : mayL b) (h1 : n1 < 4294967296) (h2 : n2 < 4294967296) (h3 : n3 < 4294967296) (h4 : n4 < 4294967296) (h5 : n5 < 4294967296) {a' b' t : List UInt8} (h : IsSoa (dataL a b [n1, n2, n3, n4, n5]) a' b' t) :
    soaV a' b' t = .agg #[sv a, sv b, .int .u32 n1, .int .u32 n2, .int .u32 n3, .int .u32 n4, .int .u32 n5] := by
  obtain ⟨rfl, rfl, rfl⟩ := h.one (isSoa_data ha hb rfl)
  have hl : ([n1, n2, n3, n4, n5].flatMap b32).length = 20 := by rw [b32_len]; rfl
  have hn := flat_inj (nums ([n1, n2, n3, n4, n5].flatMap b32)) [n1, n2, n3, n4, n5] rfl (by intro x hx; unfold nums at hx; simp at hx; rcases hx with rfl | rfl | rfl | rfl | rfl <;> exact n32_lt _ _)
    (by intro x hx; simp at hx; omega) (nums_bytes _ hl)
  unfold nums at hn
  simp only [List.cons.injEq, and_true] at hn
  obtain ⟨e1, e2, e3, e4, e5⟩ := hn
  unfold soaV
  rw [e1, e2, e3, e4, e5]
set_option maxHeartbeats 800000 in
theorem sof_other (nm d : ByteArray) (t ttl : Int) (w : World) (ht : (t != 6) = true) :
    Calls Tryd.prog 47 #[.agg #[.string nm, .int .u16 t, .int .u32 ttl, .string d]] w fun e w' => e = .returned (.tuple #[soa0, .bool false]) ∧ Below w.heap.size w w' := by
  go_enter Tryd.func47, Tryd.ntmps47
  go_wp2_with fail
  refine bodyPost_ret (v := .tuple #[soa0, .bool false]) (by simp [soa0, results, Tryd.results47, go_sem]) rfl ⟨rfl, ?_⟩
  exact ((Below.refl w.heap.size w).alloc (Nat.le_refl _) _).alloc (by simp) _
set_option maxHeartbeats 1600000 in
theorem sof_soa (nm d : ByteArray) (ttl : Int) (w : World) (hd : d.size ≤ 140737488355328) :
    Calls Tryd.prog 47 #[.agg #[.string nm, .int .u16 6, .int .u32 ttl, .string d]] w fun e w' => Below w.heap.size w w' ∧ ((∃ a b t, IsSoa d.data.toList a b t ∧ e = .returned (.tuple #[soaV a b t, .bool true])) ∨ ((∀ a b t, ¬ IsSoa d.data.toList a b t) ∧ e = .returned (.tuple #[soa0, .bool false]))) := by
  have PA := Lib.hid (fun w => parse_any d w hd)
  go_enter Tryd.func47, Tryd.ntmps47
  go_wp2_with fail
  have hC := Cs.new (w.alloc (.cells #[.string nm, .int .u16 6, .int .u32 ttl, .string d] 32)) #[.string ⟨#[]⟩, .string ⟨#[]⟩, .int .u32 0, .int .u32 0, .int .u32 0, .int .u32 0, .int .u32 0] 63 [.string ⟨#[]⟩, .string ⟨#[]⟩, .int .u32 0, .int .u32 0, .int .u32 0, .int .u32 0, .int .u32 0]
  have hP : (w.alloc (.cells #[.string nm, .int .u16 6, .int .u32 ttl, .string d] 32)).heap.size = w.heap.size + 1 := by simp
  rw [hP] at hC
  have hbW := ((Below.refl w.heap.size w).alloc (Nat.le_refl _) (.cells #[.string nm, .int .u16 6, .int .u32 ttl, .string d] 32)).alloc (by simp) (.cells #[.string ⟨#[]⟩, .string ⟨#[]⟩, .int .u32 0, .int .u32 0, .int .u32 0, .int .u32 0, .int .u32 0] 63)
  generalize hW : (w.alloc (.cells #[.string nm, .int .u16 6, .int .u32 ttl, .string d] 32)).alloc (.cells #[.string ⟨#[]⟩, .string ⟨#[]⟩, .int .u32 0, .int .u32 0, .int .u32 0, .int .u32 0, .int .u32 0] 63) = W at *
  clear hW hP
  refine (PA.out _).mono ?_
  rintro e w2 ⟨hb2', h2⟩
  have hC2 := hC.below hb2'
  have hb2 := below_trans hbW hbW.size hb2'
  have d0 := hC2.get 0 _
  have d1 := hC2.get 1 _
  have d2 := hC2.get 2 _
  have d3 := hC2.get 3 _
  have d4 := hC2.get 4 _
  have d5 := hC2.get 5 _
  have d6 := hC2.get 6 _
  have fz : ∀ j, j < 7 → w2.frozen? ⟨w.heap.size + 1, j, none⟩ = false := fun j hj => hC2.froz j hj
  have f0 := fz 0 (by omega)
  have f1 := fz 1 (by omega)
  have f2 := fz 2 (by omega)
  have f3 := fz 3 (by omega)
  have f4 := fz 4 (by omega)
  have f5 := fz 5 (by omega)
  have f6 := fz 6 (by omega)
  clear hC2 hC hbW hb2' PA fz
  rcases h2 with ⟨a, b, t, hy, rfl⟩ | ⟨hno, rfl⟩
  · have HY := Lib.hid hy
    clear hy
    obtain ⟨a1, a2, a3, a4, a5, a6, a7, ha⟩ : ∃ a1 a2 a3 a4 a5 a6 a7, soaV a b t = .agg #[.string a1, .string a2, .int .u32 a3, .int .u32 a4, .int .u32 a5, .int .u32 a6, .int .u32 a7] := ⟨_, _, _, _, _, _, _, rfl⟩
    rw [ha]
    have HA := Lib.hid ha
    clear ha
    go_wp2_with fail
    refine bodyPost_ret (v := .tuple #[.agg #[.string a1, .string a2, .int .u32 a3, .int .u32 a4, .int .u32 a5, .int .u32 a6, .int .u32 a7], .bool true]) (by simp [results, Tryd.results47, go_sem, d0, d1, d2, d3, d4, d5, d6]) rfl ⟨?_, .inl ⟨a, b, t, HY.out, by rw [HA.out]⟩⟩
    iterate 7 (refine Below.setCell ?_ (by simp) _)
    exact hb2
  · have HN := Lib.hid hno
    clear hno
    unfold soa0
    go_wp2_with fail
    refine bodyPost_ret (v := .tuple #[soa0, .bool false]) (by simp [soa0, results, Tryd.results47, go_sem, d0, d1, d2, d3, d4, d5, d6]) rfl ⟨?_, .inr ⟨HN.out, rfl⟩⟩
    iterate 7 (refine Below.setCell ?_ (by simp) _)
    exact hb2
end Go.Proofs.YtkpjehplchdmgaaDoor
namespace Go.Proofs.YtkpjehplchdmgaaDoor
open Go.RowKit
set_option linter.unusedVariables false
set_option linter.unusedSimpArgs false
set_option maxRecDepth 20000
theorem dataL_len9 (a b : List UInt8) (ns : List Nat) : (dataL a b ns).length = a.length + b.length + 4 * ns.length + 2 := by
  unfold dataL
  rw [List.length_append, List.length_cons, List.length_append, List.length_cons, b32_len]; omega
theorem sof_soaR (o : ByteArray) (n : Nat) (hn : n < 4294967296) (w : World) : Calls Tryd.prog 47 #[recV (soaR o n)] w fun e w' => e = .returned (.tuple #[.agg #[sv (nameZ []), sv (nameZ []), .int .u32 n, .int .u32 10, .int .u32 3, .int .u32 40, .int .u32 1], .bool true]) ∧ Below w.heap.size w w' := by
  have hm := nameZ_may [] (by simp)
  have hl := nameZ_len [] (by simp)
  have hd : (soaD n).size ≤ 140737488355328 := by
    unfold soaD
    rw [mk_size, dataL_len9]
    simp
    omega
  have hdl : (soaD n).data.toList = dataL (nameZ []) (nameZ []) [n, 10, 3, 40, 1] := by unfold soaD; simp
  refine (sof_soa o (soaD n) 9 w hd).mono ?_
  rintro e w' ⟨hb, ⟨a, b, t, hs, rfl⟩ | ⟨hno, rfl⟩⟩
  · rw [hdl] at hs
    rw [soaV_data hm hm hn (by omega) (by omega) (by omega) (by omega) hs]
    exact ⟨rfl, hb⟩
  · exfalso
    rw [hdl] at hno
    exact hno _ _ _ (isSoa_data hm hm rfl)
set_option maxHeartbeats 1600000 in
theorem serial_soa (o : ByteArray) (n : Nat) (hn : n < 4294967296) (w : World) : Calls Tryd.prog 31 #[recV (soaR o n)] w fun e w' => e = .returned (.int .u32 (n : Nat)) ∧ Below w.heap.size w w' := by
  have OF : Hid (∀ w, Calls Tryd.prog 47 #[.agg #[.string o, .int .u16 6, .int .u32 9, .string (soaD n)]] w fun e w' => (∃ EX, EX = Value.agg #[sv (nameZ []), sv (nameZ []), .int .u32 n, .int .u32 10, .int .u32 3, .int .u32 40, .int .u32 1] ∧ e = .returned (.tuple #[EX, .bool true])) ∧ Below w.heap.size w w') :=
    Lib.hid (fun w => (sof_soaR o n hn w).mono (by rintro e w' ⟨rfl, hb⟩; exact ⟨⟨_, rfl, rfl⟩, hb⟩))
  unfold soaR recV
  simp only
  generalize soaD n = D at *
  have hb := (Below.refl w.heap.size w).alloc (Nat.le_refl _) (.cells #[.string o, .int .u16 6, .int .u32 9, .string D] 32)
  have HB := Lib.hid hb
  clear hb
  go_enter Tryd.func31, Tryd.ntmps31
  go_wp2_with fail
  refine (OF.out _).mono ?_
  rintro e w2 ⟨⟨EX, hEX, rfl⟩, hb2⟩
  have HEX := Lib.hid hEX
  clear hEX
  have hZ := Cs.new w2 #[.string ⟨#[]⟩, .string ⟨#[]⟩, .int .u32 0, .int .u32 0, .int .u32 0, .int .u32 0, .int .u32 0] 63 [.string ⟨#[]⟩, .string ⟨#[]⟩, .int .u32 0, .int .u32 0, .int .u32 0, .int .u32 0, .int .u32 0]
  have HTH := Lib.hid (hZ.there 7 rfl)
  have hM := hZ.mid [sv (nameZ []), sv (nameZ []), .int .u32 n, .int .u32 10, .int .u32 3, .int .u32 40, .int .u32 1] rfl
  have hbZ := below_setCells' (B := w.heap.size) (g := w2.heap.size) (Nat.le_trans HB.out.size hb2.size) [sv (nameZ []), sv (nameZ []), .int .u32 n, .int .u32 10, .int .u32 3, .int .u32 40, .int .u32 1] 0 ((below_trans HB.out HB.out.size hb2).alloc (Nat.le_trans HB.out.size hb2.size) (.cells #[.string ⟨#[]⟩, .string ⟨#[]⟩, .int .u32 0, .int .u32 0, .int .u32 0, .int .u32 0, .int .u32 0] 63))
  have k2 := hM.get 2 _
  have HBZ := Lib.hid hbZ
  have HK2 := Lib.hid k2
  clear hb2 hZ hM hbZ k2
  go_upto_region 2 with (first | refine wpList_store_mid rfl 63 _ _ rfl w2.heap.size 0 #[sv (nameZ []), sv (nameZ []), .int .u32 n, .int .u32 10, .int .u32 3, .int .u32 40, .int .u32 1] rfl HEX.out HTH.out (by kernel_rfl) (by simp [Value.oneCell', sv]) ?_)
  have k2 := HK2.out
  generalize (w2.alloc (.cells #[.string ⟨#[]⟩, .string ⟨#[]⟩, .int .u32 0, .int .u32 0, .int .u32 0, .int .u32 0, .int .u32 0] 63)).setCells w2.heap.size 0 [sv (nameZ []), sv (nameZ []), .int .u32 n, .int .u32 10, .int .u32 3, .int .u32 40, .int .u32 1] = w5 at *
  go_wp2_with fail
  go_ret
  exact ⟨rfl, HBZ.out⟩
end Go.Proofs.YtkpjehplchdmgaaDoor
namespace Go.Proofs.YtkpjehplchdmgaaDoor
open Go.RowKit
set_option linter.unusedVariables false
set_option linter.unusedSimpArgs false
set_option maxRecDepth 20000
/-- The example's SOA of a serial number. -/
def exD (n : Nat) : ByteArray := ⟨(dataL [] [] [n, 0, 0, 0, 0]).toArray⟩
def exR (n : Nat) : RecT := (⟨#[]⟩, 6, 0, exD n)
set_option maxHeartbeats 1600000 in
theorem ex9_any (n : Nat) (hn : n < 4294967296) (w : World) : Calls Tryd.prog 19 #[.int .u32 (n : Nat)] w fun e w' => e = .returned (recV (exR n)) ∧ Below w.heap.size w w' := by
  have DT : Hid (∀ w, Calls Tryd.prog 20 #[.agg #[.string ⟨#[]⟩, .string ⟨#[]⟩, .int .u32 (n : Nat), .int .u32 0, .int .u32 0, .int .u32 0, .int .u32 0]] w fun e w' => e = .returned (.tuple #[.string (exD n), .bool true]) ∧ Below w.heap.size w w') :=
    Lib.hid (fun w => (sdata_any ⟨#[]⟩ ⟨#[]⟩ n 0 0 0 0 w (by decide) (by decide) hn (by omega) (by omega) (by omega) (by omega)).mono (by
      rintro e w' ⟨hb, ⟨-, rfl⟩ | ⟨hno, -⟩⟩
      · exact ⟨rfl, hb⟩
      · exact absurd ⟨rfl, rfl⟩ hno))
  unfold exR recV
  simp only
  generalize exD n = D at *
  have hb := (Below.refl w.heap.size w).alloc (Nat.le_refl _) (.cells #[.string ⟨#[]⟩, .int .u16 0, .int .u32 0, .string ⟨#[]⟩] 32)
  have hC := Cs.new w #[.string ⟨#[]⟩, .int .u16 0, .int .u32 0, .string ⟨#[]⟩] 32 [.string ⟨#[]⟩, .int .u16 0, .int .u32 0, .string ⟨#[]⟩]
  have H0 := Lib.hid (And.intro hb hC)
  clear hb hC
  go_enter Tryd.func19, Tryd.ntmps19
  go_wp2_with fail
  refine (DT.out _).mono ?_
  rintro e w1 ⟨rfl, hb1⟩
  have hC1 := H0.out.2.below hb1
  have HTH := Lib.hid (hC1.there 4 rfl)
  have HM := Lib.hid (hC1.mid [.string ⟨#[]⟩, .int .u16 6, .int .u32 0, .string D] rfl)
  have HBM := Lib.hid (below_setCells' (B := w.heap.size) (g := w.heap.size) (Nat.le_refl _) [.string ⟨#[]⟩, .int .u16 6, .int .u32 0, .string D] 0 (below_trans H0.out.1 H0.out.1.size hb1))
  clear hb1 hC1
  go_wp2_with (first | refine wpList_store_mid rfl 32 _ _ rfl w.heap.size 0 #[.string ⟨#[]⟩, .int .u16 6, .int .u32 0, .string D] rfl rfl HTH.out (by kernel_rfl) (by simp [Value.oneCell']) ?_)
  exact bodyPost_ret (v := .agg #[.string ⟨#[]⟩, .int .u16 6, .int .u32 0, .string D]) (results_cell1 Tryd.results19 _ _ _ w.heap.size 0 _ _ rfl HM.out.range Tryd.underlying32 rfl (by kernel_rfl)) rfl ⟨rfl, HBM.out⟩
end Go.Proofs.YtkpjehplchdmgaaDoor
namespace Go.Proofs.YtkpjehplchdmgaaDoor
open Go.RowKit
set_option linter.unusedVariables false
set_option linter.unusedSimpArgs false
set_option maxRecDepth 20000
/-- What serial tells of any record. -/
def SerF (sf : RecT → Nat) : Prop := ∀ r : RecT, (∀ a b t, IsSoa r.2.2.2.data.toList a b t → sf r = n32 ⟨t.toArray⟩ 0) ∧ ((∀ a b t, ¬ IsSoa r.2.2.2.data.toList a b t) → sf r = 0)
theorem ser_fun : ∃ sf : RecT → Nat, SerF sf := by
  have h : ∀ r : RecT, ∃ k : Nat, (∀ a b t, IsSoa r.2.2.2.data.toList a b t → k = n32 ⟨t.toArray⟩ 0) ∧ ((∀ a b t, ¬ IsSoa r.2.2.2.data.toList a b t) → k = 0) := by
    intro r
    by_cases hx : ∃ a b t, IsSoa r.2.2.2.data.toList a b t
    · obtain ⟨a, b, t, hx⟩ := hx
      refine ⟨n32 ⟨t.toArray⟩ 0, fun a' b' t' h' => ?_, fun hno => absurd hx (hno a b t)⟩
      obtain ⟨-, -, rfl⟩ := hx.one h'
      rfl
    · exact ⟨0, fun a b t h' => absurd ⟨a, b, t, h'⟩ hx, fun _ => rfl⟩
  exact ⟨fun r => (h r).choose, fun r => (h r).choose_spec⟩
theorem SerF.of_soa {sf : RecT → Nat} (h : SerF sf) (o : ByteArray) (n : Nat) (hn : n < 4294967296) : sf (soaR o n) = n := by
  have hm := nameZ_may [] (by simp)
  have hdl : (soaD n).data.toList = dataL (nameZ []) (nameZ []) [n, 10, 3, 40, 1] := by unfold soaD; simp
  have hi : IsSoa (soaD n).data.toList (nameZ []) (nameZ []) ([n, 10, 3, 40, 1].flatMap b32) := by rw [hdl]; exact isSoa_data hm hm rfl
  have h1 := (h (soaR o n)).1 _ _ _ hi
  rw [hdl] at hi
  have h2 := soaV_data hm hm hn (by omega) (by omega) (by omega) (by omega) hi
  unfold soaV at h2
  injection h2 with h2
  injection h2 with h2
  injection h2 with _ h2
  injection h2 with _ h2
  injection h2 with h2 _
  injection h2 with _ h2
  rw [h1]
  omega
theorem SerF.of_ex {sf : RecT → Nat} (h : SerF sf) (n : Nat) (hn : n < 4294967296) : sf (exR n) = n := by
  have hm : mayL ([] : List UInt8) := rfl
  have hdl : (exD n).data.toList = dataL [] [] [n, 0, 0, 0, 0] := by unfold exD; simp
  have hi : IsSoa (exD n).data.toList [] [] ([n, 0, 0, 0, 0].flatMap b32) := by rw [hdl]; exact isSoa_data hm hm rfl
  have h1 := (h (exR n)).1 _ _ _ hi
  rw [hdl] at hi
  have h2 := soaV_data hm hm hn (by omega) (by omega) (by omega) (by omega) hi
  unfold soaV at h2
  injection h2 with h2
  injection h2 with h2
  injection h2 with _ h2
  injection h2 with _ h2
  injection h2 with h2 _
  injection h2 with _ h2
  rw [h1]
  omega
set_option maxHeartbeats 1600000 in
theorem serial_gen (r0 : ByteArray) (r1 r2 : Int) (r3 s1 s2 : ByteArray) (n0 n1 n2 n3 n4 : Int) (q : Bool) (w : World)
    (OF : ∀ w, Calls Tryd.prog 47 #[.agg #[.string r0, .int .u16 r1, .int .u32 r2, .string r3]] w fun e w' => e = .returned (.tuple #[.agg #[.string s1, .string s2, .int .u32 n0, .int .u32 n1, .int .u32 n2, .int .u32 n3, .int .u32 n4], .bool q]) ∧ Below w.heap.size w w') :
    Calls Tryd.prog 31 #[.agg #[.string r0, .int .u16 r1, .int .u32 r2, .string r3]] w fun e w' => e = .returned (.int .u32 n0) ∧ Below w.heap.size w w' := by
  have OF : Hid (∀ w, Calls Tryd.prog 47 #[.agg #[.string r0, .int .u16 r1, .int .u32 r2, .string r3]] w fun e w' => (∃ EX, EX = Value.agg #[.string s1, .string s2, .int .u32 n0, .int .u32 n1, .int .u32 n2, .int .u32 n3, .int .u32 n4] ∧ e = .returned (.tuple #[EX, .bool q])) ∧ Below w.heap.size w w') :=
    Lib.hid (fun w => (OF w).mono (by rintro e w' ⟨rfl, hb⟩; exact ⟨⟨_, rfl, rfl⟩, hb⟩))
  have hb := (Below.refl w.heap.size w).alloc (Nat.le_refl _) (.cells #[.string r0, .int .u16 r1, .int .u32 r2, .string r3] 32)
  have HB := Lib.hid hb
  clear hb
  go_enter Tryd.func31, Tryd.ntmps31
  go_wp2_with fail
  refine (OF.out _).mono ?_
  rintro e w2 ⟨⟨EX, hEX, rfl⟩, hb2⟩
  have HEX := Lib.hid hEX
  clear hEX
  have hZ := Cs.new w2 #[.string ⟨#[]⟩, .string ⟨#[]⟩, .int .u32 0, .int .u32 0, .int .u32 0, .int .u32 0, .int .u32 0] 63 [.string ⟨#[]⟩, .string ⟨#[]⟩, .int .u32 0, .int .u32 0, .int .u32 0, .int .u32 0, .int .u32 0]
  have HTH := Lib.hid (hZ.there 7 rfl)
  have hM := hZ.mid [.string s1, .string s2, .int .u32 n0, .int .u32 n1, .int .u32 n2, .int .u32 n3, .int .u32 n4] rfl
  have hbZ := below_setCells' (B := w.heap.size) (g := w2.heap.size) (Nat.le_trans HB.out.size hb2.size) [.string s1, .string s2, .int .u32 n0, .int .u32 n1, .int .u32 n2, .int .u32 n3, .int .u32 n4] 0 ((below_trans HB.out HB.out.size hb2).alloc (Nat.le_trans HB.out.size hb2.size) (.cells #[.string ⟨#[]⟩, .string ⟨#[]⟩, .int .u32 0, .int .u32 0, .int .u32 0, .int .u32 0, .int .u32 0] 63))
  have k2 := hM.get 2 _
  have HBZ := Lib.hid hbZ
  have HK2 := Lib.hid k2
  clear hb2 hZ hM hbZ k2
  go_upto_region 2 with (first | refine wpList_store_mid rfl 63 _ _ rfl w2.heap.size 0 #[.string s1, .string s2, .int .u32 n0, .int .u32 n1, .int .u32 n2, .int .u32 n3, .int .u32 n4] rfl HEX.out HTH.out (by kernel_rfl) (by simp [Value.oneCell']) ?_)
  have k2 := HK2.out
  generalize (w2.alloc (.cells #[.string ⟨#[]⟩, .string ⟨#[]⟩, .int .u32 0, .int .u32 0, .int .u32 0, .int .u32 0, .int .u32 0] 63)).setCells w2.heap.size 0 [.string s1, .string s2, .int .u32 n0, .int .u32 n1, .int .u32 n2, .int .u32 n3, .int .u32 n4] = w5 at *
  go_wp2_with fail
  go_ret
  exact ⟨rfl, HBZ.out⟩
theorem serial_any {sf : RecT → Nat} (h : SerF sf) (r : RecT) (hr : soaB r = true) (hd : r.2.2.2.size ≤ 140737488355328) (w : World) : Calls Tryd.prog 31 #[recV r] w fun e w' => e = .returned (.int .u32 (sf r : Nat)) ∧ Below w.heap.size w w' := by
  have hsf := h r
  obtain ⟨r0, r1, r2, r3⟩ := r
  unfold soaB at hr
  simp only [beq_iff_eq] at hr
  subst hr
  unfold recV
  simp only at hd hsf ⊢
  by_cases hx : ∃ a b t, IsSoa r3.data.toList a b t
  · obtain ⟨a, b, t, hx⟩ := hx
    rw [hsf.1 a b t hx]
    refine serial_gen r0 6 r2 r3 ⟨a.toArray⟩ ⟨b.toArray⟩ (n32 ⟨t.toArray⟩ 0) (n32 ⟨t.toArray⟩ 4) (n32 ⟨t.toArray⟩ 8) (n32 ⟨t.toArray⟩ 12) (n32 ⟨t.toArray⟩ 16) true w (fun w => (sof_soa r0 r3 r2 w hd).mono ?_)
    rintro e w' ⟨hb, ⟨a', b', t', hs, rfl⟩ | ⟨hno, -⟩⟩
    · obtain ⟨rfl, rfl, rfl⟩ := hx.one hs
      exact ⟨rfl, hb⟩
    · exact absurd hx (hno a b t)
  · rw [hsf.2 (fun a b t h' => hx ⟨a, b, t, h'⟩)]
    refine serial_gen r0 6 r2 r3 ⟨#[]⟩ ⟨#[]⟩ 0 0 0 0 0 false w (fun w => (sof_soa r0 r3 r2 w hd).mono ?_)
    rintro e w' ⟨hb, ⟨a', b', t', hs, rfl⟩ | ⟨hno, rfl⟩⟩
    · exact absurd ⟨a', b', t', hs⟩ hx
    · exact ⟨rfl, hb⟩
set_option maxHeartbeats 1600000 in
theorem mayrec_of (r : RecT) (q : Bool) (h41 : ¬ r.2.1 = 41) (hl : (labelsOf r.1).isSome = true) (hn : r.1.size ≤ 100000) (hq : ∀ w, Calls Tryd.prog 49 #[.int .u16 r.2.1, .string r.2.2.2] w fun e w' => e = .returned (.bool q) ∧ Below w.heap.size w w') (w : World) :
    Calls Tryd.prog 34 #[recV r] w fun e w' => e = .returned (.bool q) ∧ Below w.heap.size w w' := by
  have HM := Lib.hid (fun w => may_any r.1 w (by unfold maxLen; omega))
  rw [hl] at HM
  clear hl
  unfold recV
  have e41 : (r.2.1 != 41) = true := by simp [h41]
  have HQ := Lib.hid hq
  clear hq
  go_enter Tryd.func34, Tryd.ntmps34
  go_wp2_with fail
  refine (HM.out _).mono ?_
  rintro e w1 ⟨rfl, hb⟩
  have hc := (Cs.new w #[.string r.1, .int .u16 r.2.1, .int .u32 r.2.2.1, .string r.2.2.2] 32 [.string r.1, .int .u16 r.2.1, .int .u32 r.2.2.1, .string r.2.2.2]).below hb
  have c1 := hc.get 1 _
  have c3 := hc.get 3 _
  have HB := Lib.hid (below_alloc _ (Below.refl _ _) (Nat.le_refl _) hb)
  clear hb hc
  go_wp2_with fail
  refine (HQ.out w1).mono ?_
  rintro e w2 ⟨rfl, hb2⟩
  have HB2 := Lib.hid (below_trans HB.out HB.out.size hb2)
  clear hb2
  go_wp2_with fail
  go_ret
  exact ⟨rfl, HB2.out⟩
theorem rmay_99 (w : World) : Calls Tryd.prog 49 #[.int .u16 99, .string ⟨#[]⟩] w fun e w' => e = .returned (.bool true) ∧ Below w.heap.size w w' := by
  go_enter Tryd.func49, Tryd.ntmps49
  go_wp2_with fail
  go_ret
  exact ⟨rfl, Below.refl _ _⟩
theorem mayrec_exR (n : Nat) (w : World) : Calls Tryd.prog 34 #[recV (exR n)] w fun e w' => e = .returned (.bool true) ∧ Below w.heap.size w w' := by
  have hl : (exD n).size ≤ 140737488355328 := by unfold exD; rw [mk_size, dataL_len9]; simp
  have hdl : (exD n).data.toList = dataL [] [] [n, 0, 0, 0, 0] := by unfold exD; simp
  refine mayrec_of (exR n) true (show ¬ (6 : Int) = 41 by decide) (show (labelsOf ⟨#[]⟩).isSome = true by rfl) (show (ByteArray.mk #[]).size ≤ 100000 by decide) (fun w => (rmay_soa (exD n) w hl).mono ?_) w
  rintro e w' ⟨hb, ⟨-, rfl⟩ | ⟨hno, -⟩⟩
  · exact ⟨rfl, hb⟩
  · refine absurd ?_ (hno [] [] ([n, 0, 0, 0, 0].flatMap b32))
    rw [hdl]
    exact isSoa_data rfl rfl rfl
/-- The other records of the example. -/
def xR (c : UInt8) : RecT := (⟨#[1, c]⟩, 99, 0, ⟨#[]⟩)
theorem mayrec_x (w : World) : Calls Tryd.prog 34 #[recV (xR 120)] w fun e w' => e = .returned (.bool true) ∧ Below w.heap.size w w' :=
  mayrec_of (xR 120) true (by decide) (by rfl) (by decide) (fun w => rmay_99 w) w
theorem mayrec_y (w : World) : Calls Tryd.prog 34 #[recV (xR 121)] w fun e w' => e = .returned (.bool true) ∧ Below w.heap.size w w' :=
  mayrec_of (xR 121) true (by decide) (by rfl) (by decide) (fun w => rmay_99 w) w
def rs6 : List RecT := [exR 3, exR 2, xR 120, exR 3, xR 121, exR 3]
theorem eqB_refl (r : RecT) : eqB r r = true := by unfold eqB; simp
theorem part6 {sf : RecT → Nat} (h : SerF sf) : partR (fun _ => true) sf ⟨#[]⟩ 2 rs6 = .inr (some (some [(1, 3, 5)])) := by
  have h2 := h.of_ex 2 (by omega)
  have h3 := h.of_ex 3 (by omega)
  have e0 : ∀ n, admB (fun _ => true) ⟨#[]⟩ (exR n) = true := by
    intro n
    unfold admB
    rw [show (stripOf (exR n).1 ⟨#[]⟩).isSome = true from (by kernel_rfl : (stripOf ⟨#[]⟩ ⟨#[]⟩).isSome = true), show ((exR n).1.toList == (ByteArray.mk #[]).toList) = true from by unfold exR; simp]
    simp
  have e1 : ∀ c, (stripOf (xR c).1 ⟨#[]⟩).isSome = true → admB (fun _ => true) ⟨#[]⟩ (xR c) = true := by
    intro c hc
    unfold admB
    rw [hc, show soaB (xR c) = false from rfl]
    simp
  have ha : admR (fun _ => true) ⟨#[]⟩ rs6 = true := by
    unfold admR rs6
    simp only [List.all_cons, List.all_nil, e0, e1 120 (by kernel_rfl), e1 121 (by kernel_rfl)]
    rfl
  have hf : fullR (fun _ => true) ⟨#[]⟩ rs6 = false := by
    unfold fullR rs6
    simp only
    rw [show (List.take _ (List.drop 1 [exR 3, exR 2, xR 120, exR 3, xR 121, exR 3])).any soaB = true from rfl]
    simp
  have hd : deltasR sf 2 rs6 = .inr [(1, 3, 5)] := by
    have d1 : deltaR sf 2 rs6 1 = .inr (3, 5) := by
      unfold deltaR
      rw [show rs6[1]? = some (exR 2) from rfl]
      simp only
      rw [show soaB (exR 2) = true from rfl, if_pos rfl, h2, if_pos rfl]
      rfl
    have g1 : deltasG sf rs6 6 2 1 = .inr [(1, 3, 5)] := by
      unfold deltasG
      rw [if_pos (by decide), d1]
      rfl
    unfold deltasR
    rw [show rs6.length = 6 from rfl, g1]
    simp only
    rw [if_pos]
    unfold endOk
    show (eqB (exR 3) (exR 3) && eqB (exR 3) (exR 3)) = true
    rw [eqB_refl]; rfl
  unfold partR
  rw [if_pos ha, if_neg (by decide), hf, if_neg (by simp), hd]
end Go.Proofs.YtkpjehplchdmgaaDoor
