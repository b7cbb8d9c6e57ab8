/- The walk of TableScript. -/
import Derived.Test.YtikbekchddinfaaLawTabS
namespace Go.Proofs.Ytikbekchddinfaa
open Go.RowKit
set_option linter.unusedVariables false
set_option linter.unusedSimpArgs false
set_option maxRecDepth 20000
/-- A table's numbers as a map's. -/
def toV (M : ByteArray → Option Int) : ByteArray → Option Value := fun k => (M k).map (Value.int .i64)
theorem toV_set (M : ByteArray → Option Int) (k : ByteArray) (v : Option Int) : toV (upd M k v) = updM (toV M) k (v.map (Value.int .i64)) := by
  funext q
  unfold toV upd updM
  split <;> rfl
/-- The law's table and its map. -/
structure ScriptS (w : World) (b h : Nat) (V : Value) (M M' : ByteArray → Option Int) (lv lv' : Nat) (wr : World) : Prop where
  tabx : ∃ most us n, most ≤ 256 ∧ TabL w w.heap.size most b V M lv us n wr
  cnt : lv = cntM M 256
  cnt' : lv' = cntM M' 256
  mm : MM Value.string wr h (toV M') lv'
  hb : h ≠ b
  hV : V.ownBlock ≠ some h
  base : w.heap.size ≤ h
section
variable {w wr w' : World} {b h : Nat} {V : Value} {M M' : ByteArray → Option Int} {lv lv' : Nat}
theorem ScriptS.bel (s : ScriptS w b h V M M' lv lv' wr) : Below w.heap.size w wr := by obtain ⟨_, _, _, _, t⟩ := s.tabx; exact t.bel
theorem ScriptS.below (s : ScriptS w b h V M M' lv lv' wr) (hb : Below wr.heap.size wr w') : ScriptS w b h V M M' lv lv' w' := by
  obtain ⟨most, us, n, h1, t⟩ := s.tabx
  exact ⟨⟨most, us, n, h1, t.below hb⟩, s.cnt, s.cnt', s.mm.below hb, s.hb, s.hV, s.base⟩
theorem zero_int (w : World) : (zeroValue 3).run Try.prog w = .ok (.int .i64 0) w := by kernel_rfl
theorem ScriptS.look (s : ScriptS w b h V M M' lv lv' wr) (k : ByteArray) : (Instr.lookup 28 (.map (some h)) (.string k) true).run Try.prog wr = .ok (.tuple #[((M' k).map (Value.int .i64)).getD (.int .i64 0), .bool ((M' k).map (Value.int .i64)).isSome]) wr :=
  s.mm.lookup Try.underlying28 Try.underlying9 key_str (zero_int _) k
/-- What Put leaves: the table has the word. -/
structure PutS (w : World) (b h : Nat) (V V' : Value) (M M2 : ByteArray → Option Int) (lv lv2 : Nat) (wr w' : World) : Prop where
  s : ScriptS w b h V' M2 M lv2 lv w'
  only : Only (fun q => q = b ∨ V.ownBlock = some q) wr w'
theorem PutS.cs {V' : Value} {M2 : ByteArray → Option Int} {lv2 : Nat} (p : PutS w b h V V' M M2 lv lv2 wr w') {q : Nat} {vs : List Value} (hc : Cs wr q vs) (hq : ¬ (q = b ∨ V.ownBlock = some q)) : Cs w' q vs := p.only.cs hc hq
theorem ScriptS.put (s : ScriptS w b h V M M lv lv wr) (j : Nat) (hj : j < 256) (v : Int) :
    Calls Try.prog 9 #[.pointer (some ⟨b, 0, none⟩), .string (keyB j), .int .i64 v] wr fun e w' => e = .returned (.bool (M (keyB j)).isNone) ∧ ∃ V' lv2, PutS w b h V V' M (upd M (keyB j) (some v)) lv lv2 wr w' := by
  obtain ⟨most, us, n, h1, t⟩ := s.tabx
  refine (t.put (by omega) (keyB j) v (Nat.le_trans (keyB_size j hj) (by decide))).mono ?_
  rintro e w' ⟨rfl, V', us', n', h', -, ho, hv⟩
  have hc : (if (M (keyB j)).isSome then lv else lv + 1) = cntM (upd M (keyB j) (some v)) 256 := by
    rw [cntM_put M j v hj 256 (Nat.le_refl _), s.cnt]
    cases hm : M (keyB j) <;> simp [hj]
  rw [hc] at h'
  have hle := cntM_le (upd M (keyB j) (some v)) 256
  have hS : ¬ (h = b ∨ V.ownBlock = some h) := fun e => e.elim s.hb s.hV
  refine ⟨rfl, V', _, ⟨⟨_, us', n', by omega, h'⟩, rfl, s.cnt', ho.mm s.mm hS, s.hb, fun e => ?_, s.base⟩, ho⟩
  rcases hv with e2 | ⟨g, e2, hg⟩
  · rw [e2] at e; exact s.hV e
  · rw [e2] at e; injection e with e
    have := s.mm.lt
    omega
theorem ScriptS.del (s : ScriptS w b h V M M lv lv wr) (j : Nat) (hj : j < 256) :
    Calls Try.prog 10 #[.pointer (some ⟨b, 0, none⟩), .string (keyB j)] wr fun e w' => e = .returned (.bool (M (keyB j)).isSome) ∧ ∃ lv2, ScriptS w b h V (upd M (keyB j) none) M lv2 lv w' := by
  obtain ⟨most, us, n, h1, t⟩ := s.tabx
  refine (t.del (by omega) (keyB j) (Nat.le_trans (keyB_size j hj) (by decide))).mono ?_
  rintro e w' ⟨rfl, h', ho⟩
  have hc : (if (M (keyB j)).isSome then lv - 1 else lv) = cntM (upd M (keyB j) none) 256 := by
    have := cntM_del M j hj 256 (Nat.le_refl _)
    rw [← s.cnt] at this
    simp only [hj, true_and] at this
    split at this <;> rename_i hs
    · rw [if_pos hs]; omega
    · rw [if_neg hs]; omega
  rw [hc] at h'
  have hS : ¬ (h = b ∨ V.ownBlock = some h) := fun e => e.elim s.hb s.hV
  exact ⟨rfl, _, ⟨most, us, n, h1, h'⟩, rfl, s.cnt', ho.mm s.mm hS, s.hb, s.hV, s.base⟩
theorem TabL.grownAt {W : World} {B most us n : Nat} (t : TabL W B most b V M lv us n wr) (hg : wr.grownBy w' (some h)) (hb : h ≠ b) (hV : V.ownBlock ≠ some h) (hB : B ≤ h) : TabL W B most b V M lv us n w' := by
  have ho : Only (fun q => q = h) wr w' := (Only.refl _ wr).grown hg (fun k e _ => by injection e with e; exact e.symm)
  refine ⟨t.tab.only ho (fun e => hb e.symm) (fun q e1 e2 => hV (by rw [e1, e2])), t.bel.trans (ho.below (Nat.le_trans t.base (Nat.le_of_lt t.tab.lt)) (fun k hk e => by omega)), t.base, t.own⟩
theorem ScriptS.setp {k : ByteArray} {n5 : Nat} (v : Int) {M2 : ByteArray → Option Int} {lv2 : Nat} (s : ScriptS w b h V M2 M lv2 lv wr) (hM : M2 = upd M k (some v)) (hm : MM Value.string w' h (updM (toV M) k (some (.int .i64 v))) n5) (hg : wr.grownBy w' (some h)) (hn : n5 = lv2) : ScriptS w b h V M2 M2 lv2 lv2 w' := by
  obtain ⟨most, us, n, h1, t⟩ := s.tabx
  subst hn
  refine ⟨⟨most, us, n, h1, t.grownAt hg s.hb s.hV s.base⟩, s.cnt, s.cnt, hm.is ?_ rfl, s.hb, s.hV, s.base⟩
  rw [hM, toV_set]; rfl
theorem ScriptS.setd {k : ByteArray} {n5 : Nat} {M2 : ByteArray → Option Int} {lv2 : Nat} (s : ScriptS w b h V M2 M lv2 lv wr) (hM : M2 = upd M k none) (hm : MM Value.string w' h (updM (toV M) k none) n5) (hg : wr.grownBy w' (some h)) (hn : n5 = lv2) : ScriptS w b h V M2 M2 lv2 lv2 w' := by
  obtain ⟨most, us, n, h1, t⟩ := s.tabx
  subst hn
  refine ⟨⟨most, us, n, h1, t.grownAt hg s.hb s.hV s.base⟩, s.cnt, s.cnt, hm.is ?_ rfl, s.hb, s.hV, s.base⟩
  rw [hM, toV_set]; rfl
/-- How many words there are, told by the counts. -/
theorem cnt_put {k : Nat} (hk : k < 256) (M : ByteArray → Option Int) (v : Int) (lv lv2 : Nat) (h1 : lv2 = cntM (upd M (keyB k) (some v)) 256) (h2 : lv = cntM M 256) : (if (toV M (keyB k)).isSome then lv else lv + 1) = lv2 := by
  rw [h1, cntM_put M k v hk 256 (Nat.le_refl _), h2]
  unfold toV
  cases hm : M (keyB k) <;> simp [hk]
theorem cnt_del {k : Nat} (hk : k < 256) (M : ByteArray → Option Int) (lv lv2 : Nat) (h1 : lv2 = cntM (upd M (keyB k) none) 256) (h2 : lv = cntM M 256) : (if (toV M (keyB k)).isSome then lv - 1 else lv) = lv2 := by
  have := cntM_del M k hk 256 (Nat.le_refl _)
  unfold toV
  rw [Option.isSome_map]
  simp only [hk, true_and] at this
  split at this <;> rename_i hs
  · rw [if_pos hs]; omega
  · rw [if_neg hs]; omega
theorem ScriptS.tab (s : ScriptS w b h V M M' lv lv' wr) : ∃ most us n, most ≤ 256 ∧ TabL w w.heap.size most b V M lv us n wr := s.tabx
theorem ScriptS.get (s : ScriptS w b h V M M lv lv wr) (j : Nat) (hj : j < 256) (o : Option Int) (ho : M (keyB j) = o) :
    Calls Try.prog 11 #[.pointer (some ⟨b, 0, none⟩), .string (keyB j)] wr fun e w' => e = .returned (.tuple #[.int .i64 (o.getD 0), .bool o.isSome]) ∧ ScriptS w b h V M M lv lv w' := by
  obtain ⟨most, us, n, h1, t⟩ := s.tabx
  refine (t.get (by omega) (keyB j) (Nat.le_trans (keyB_size j hj) (by decide))).mono ?_
  rintro e w' ⟨rfl, hb⟩
  exact ⟨by rw [ho], s.below hb⟩
theorem ScriptS.len (s : ScriptS w b h V M M lv lv wr) : Calls Try.prog 12 #[.pointer (some ⟨b, 0, none⟩)] wr fun e w' => e = .returned (.int .i64 lv) ∧ wr = w' := by
  obtain ⟨most, us, n, h1, t⟩ := s.tabx
  exact len_of t.tab
end
def incN (b : Bool) (n : Nat) : Nat := if b then n else n + 1
def decN (b : Bool) (n : Nat) : Nat := if b then n - 1 else n
section
variable {κ : Type} {K : κ → Value} {b n : Nat} {M : κ → Option Value} {P : Program} {d : TypeDesc} (w : World) {ops : Array Oper} {rest : List Oper} {o : Oper} {a : Act} {Q : Exit → Act → World → Prop}
theorem wpList_update_mmN (hg : o.guard = none) (m x v : Operand) (t : TypeId) (hop : o.op = Op.mapUpdate t m x v) (kt e : TypeId) (ht : P.underlying t = some (.map kt e)) (hd : P.underlying kt = some d) (hK : ∀ a, MapKept.IsKey d (K a)) (hI : ∀ a c, K a = K c → a = c)
    (hm : a.eval m = .map (some b)) (hown : MM K w b M n) (k : κ) (val : Value) (hx : a.eval x = K k) (hv : a.eval v = val)
    (hC : ∀ w' n', Hid (n' = incN (M k).isSome n) → MM K w' b (updM M k (some val)) n' → w.grownBy w' (some b) → wpList P ops Q rest (a.put o.dst undef) w') :
    wpList P ops Q (o :: rest) a w := wpList_update_mm w hg m x v t hop kt e ht hd hK hI hm hown k val hx hv (fun w' h1 h2 => hC w' _ (Lib.hid rfl) h1 h2)
theorem wpList_delete_mmN (hg : o.guard = none) (m x : Operand) (t kt : TypeId) (hop : o.op = Op.call { callee := Callee.builtin Builtin.delete, args := #[m, x], argTypes := #[t, kt] }) (e : TypeId) (ht : P.underlying t = some (.map kt e)) (hd : P.underlying kt = some d) (hK : ∀ a, MapKept.IsKey d (K a)) (hI : ∀ a c, K a = K c → a = c)
    (hm : a.eval m = .map (some b)) (hown : MM K w b M n) (k : κ) (hx : a.eval x = K k)
    (hC : ∀ w' n', Hid (n' = decN (M k).isSome n) → MM K w' b (updM M k none) n' → w.grownBy w' (some b) → wpList P ops Q rest (a.put o.dst (.tuple #[])) w') :
    wpList P ops Q (o :: rest) a w := wpList_delete_mm w hg m x t kt hop e ht hd hK hI hm hown k hx (fun w' h1 h2 => hC w' _ (Lib.hid rfl) h1 h2)
end
set_option maxHeartbeats 12800000 in
theorem tableScript_walk (w : World) (A : Option Addr) (n c : Nat) (z : List Ints3T) (hS : Ints3 .u8 .u8 .i64 w A n c z) :
    Calls Try.prog 3 #[.slice A n c] w fun e w' => e = .returned (.bool true) ∧ Below w.heap.size w w' := by
  have hnm : n ≤ 9223372036854775807 := Nat.le_trans hS.le (Nat.le_trans hS.max (by decide))
  have HS := Lib.hid hS
  clear hS
  have hmm := @run_makeMap Try.prog
  go_enter Try.func3, Try.ntmps3
  go_wp2_with fail
  refine (awake15_any _).mono ?_
  rintro e w1 ⟨rfl, hb1⟩
  have HB1 := Lib.hid hb1
  clear hb1
  go_wp2_with fail
  have h0 : Hid (ScriptS w w1.heap.size (w1.heap.size + 1) (.slice none 0 0) (fun _ => none) (fun _ => none) 0 0 ((w1.alloc (.cells #[.slice none 0 0, .int .i64 0, .int .i64 0] 27)).alloc (.map #[] 0))) := Lib.hid (by
    have t := TabL.start w1 27 w _ HB1.out.size HB1.out
    have hm := MM.new Value.string (w1.alloc (.cells #[.slice none 0 0, .int .i64 0, .int .i64 0] 27))
    have hz : (w1.alloc (.cells #[.slice none 0 0, .int .i64 0, .int .i64 0] 27)).heap.size = w1.heap.size + 1 := by simp
    refine ⟨⟨0, 0, 0, by omega, t.below ((Below.refl _ _).alloc (Nat.le_refl _) _)⟩, by decide +kernel, by decide +kernel, (hm.at_ _ hz).is (by funext k; rfl) rfl, by omega, (fun e => by cases e), by have := HB1.out.size; omega⟩)
  generalize hW2 : ((w1.alloc (.cells #[.slice none 0 0, .int .i64 0, .int .i64 0] 27)).alloc (.map #[] 0)) = w2 at *
  obtain ⟨b, hbb⟩ : ∃ b, w1.heap.size = b := ⟨_, rfl⟩
  obtain ⟨h, hhh⟩ : ∃ h, h = b + 1 := ⟨_, rfl⟩
  rw [hbb] at h0 ⊢
  rw [← hhh] at h0 ⊢
  clear hW2 hbb hmm hhh
  go_loopw [26] (fun i wr => ∃ (k lv : Nat) (V : Value) (M : ByteArray → Option Int), k ≤ n ∧ i = .int .i64 k ∧ Hid (ScriptS w b h V M M lv lv wr)) (fun i _ => n - (intOf i).toNat)
  case atStart => exact ⟨0, _, _, _, Nat.zero_le _, rfl, h0⟩
  case round =>
    obtain ⟨k, lv, V, M, hk, rfl, HR⟩ := hrel
    clear h0
    by_cases hkn : k < n
    · have hkn' : (k : Int) < n := by omega
      have hk0 : ¬ (k : Int) < 0 := by omega
      obtain ⟨g0, off, rfl, hg0, hcells⟩ := HS.out.cells (by omega)
      have hkz : k < z.length := by rw [HS.out.len]; exact hkn
      obtain ⟨o1, o2, o3⟩ := HS.out.ok _ (List.getElem_mem hkz)
      obtain ⟨d0, d1, d2⟩ := hcells k _ (List.getElem?_eq_getElem hkz)
      obtain ⟨⟨p0, p1, p2⟩, hp⟩ : ∃ p, z[k] = p := ⟨_, rfl⟩
      rw [hp] at o1 o2 o3 d0 d1 d2
      simp only at o1 o2 o3 d0 d1 d2
      obtain ⟨p0, rfl, hp0⟩ := u8_nat o1
      obtain ⟨p1, rfl, hp1⟩ := u8_nat o2
      have hbr : Below w.heap.size w wr := HR.out.bel
      have e0 := (hbr.cell (p := ⟨g0, off + k * 3, none⟩) hg0).trans d0
      have e1 := (hbr.cell (p := ⟨g0, off + k * 3 + 1, none⟩) hg0).trans d1
      have e2 := (hbr.cell (p := ⟨g0, off + k * 3 + 2, none⟩) hg0).trans d2
      have hgr : g0 < wr.heap.size := Nat.lt_of_lt_of_le hg0 hbr.size
      obtain ⟨r, hr, hr2⟩ : ∃ r : Nat, (p0 : Int) % 4 = r ∧ r = p0 % 4 := ⟨p0 % 4, by omega, rfl⟩
      have hr4 : r = 0 ∨ r = 1 ∨ r = 2 ∨ r = 3 := by omega
      have HCA : Hid (Cs (wr.alloc (.cells #[.int .u8 p0, .int .u8 p1, .int .i64 p2] 30)) wr.heap.size [.int .u8 p0, .int .u8 p1, .int .i64 p2]) := Lib.hid (Cs.new wr _ _ _)
      have HBOX : Hid (¬ (wr.heap.size = b ∨ V.ownBlock = some wr.heap.size)) := Lib.hid (fun e => by
        obtain ⟨_, _, _, _, t⟩ := HR.out.tabx
        rcases e with e | e
        · have := t.tab.lt; omega
        · have := t.tab.own_lt _ e; omega)
      obtain ⟨mk, hmk⟩ : ∃ mk, M (keyB p1) = mk := ⟨_, rfl⟩
      have HR4 := Lib.hid hr4
      clear hcells hkz o1 o2 o3 d0 d1 d2 hp hbr hr2 hr4
      cases mk with
      | none =>
        have HMK := Lib.hid hmk
        clear hmk
        rcases HR4.out with rfl | rfl | rfl | rfl
        · go_wp2_with fail
          refine (key15_any p1 hp1 _).mono ?_
          rintro e w3 ⟨rfl, hb3⟩
          have H3 := Lib.hid (HR.out.below (((Below.refl wr.heap.size wr).alloc (Nat.le_refl _) _).trans (hb3.mono (by simp))))
          have c1 := (HCA.out.below hb3).get 0 _
          have c2 := (HCA.out.below hb3).get 2 _
          have f1 := (HCA.out.below hb3).lt
          have HC3 := Lib.hid (HCA.out.below hb3)
          have hlk := H3.out.look (keyB p1)
          rw [HMK.out] at hlk
          simp only [Option.map_some, Option.map_none, Option.getD_some, Option.getD_none, Option.isSome_some, Option.isSome_none] at hlk
          clear hb3 HR HCA
          
          have HP := Lib.hid (H3.out.put p1 hp1 p2)
          rw [HMK.out] at HP
          go_wp2_with fail
          refine HP.out.mono ?_
          rintro e w4 ⟨rfl, V4, lv4, h4⟩
          have c3 := (h4.cs HC3.out HBOX.out).get 2 _
          have f3 := (h4.cs HC3.out HBOX.out).lt
          have H4 := Lib.hid h4.s
          clear h4 HP H3 hlk c1 c2 f1
          go_wp2_with (at_mapUpdate; refine wpList_update_mmN _ rfl _ _ _ _ rfl 9 3 Try.underlying28 Try.underlying9 key_str str_inj rfl H4.out.mm (keyB p1) _ rfl rfl ?_)
          intro w5 n5 hn5 hm5 hg5
          have H5 := Lib.hid (H4.out.setp p2 rfl hm5 hg5 (hn5.out.trans (cnt_put hp1 M p2 lv lv4 H4.out.cnt H4.out.cnt')))
          have HG : Hid (upd M (keyB p1) (some p2) (keyB p1) = some p2) := Lib.hid (upd_same _ _ _)
          clear hm5 hg5 hn5 c3 f3
          
          have hget : (upd M (keyB p1) (some p2)) (keyB p1) = some p2 := HG.out
          have GET := H5.out.get p1 hp1 _ hget
          have HGET := Lib.hid GET
          clear GET hget
          go_wp2_with fail
          refine HGET.out.mono ?_
          rintro e w6 ⟨rfl, h6⟩
          have H6 := Lib.hid h6
          have hlk6 := h6.look (keyB p1)
          rw [HG.out] at hlk6
          simp only [Option.map_some, Option.map_none, Option.getD_some, Option.getD_none, Option.isSome_some, Option.isSome_none] at hlk6
          have hln6 := fun ty => h6.mm.len (P := Try.prog) Try.underlying28 ty
          have LEN := Lib.hid h6.len
          clear h6 HGET
          go_wp2_with fail
          refine LEN.out.mono ?_
          rintro e w7 ⟨rfl, rfl⟩
          go_wp2_with fail
          go_roundw
          case rel => exact ⟨k + 1, _, _, _, by omega, by go_num, Lib.hid H6.out⟩
          case measure => simp [intOf]; omega
        · go_wp2_with fail
          refine (key15_any p1 hp1 _).mono ?_
          rintro e w3 ⟨rfl, hb3⟩
          have H3 := Lib.hid (HR.out.below (((Below.refl wr.heap.size wr).alloc (Nat.le_refl _) _).trans (hb3.mono (by simp))))
          have c1 := (HCA.out.below hb3).get 0 _
          have c2 := (HCA.out.below hb3).get 2 _
          have f1 := (HCA.out.below hb3).lt
          have HC3 := Lib.hid (HCA.out.below hb3)
          have hlk := H3.out.look (keyB p1)
          rw [HMK.out] at hlk
          simp only [Option.map_some, Option.map_none, Option.getD_some, Option.getD_none, Option.isSome_some, Option.isSome_none] at hlk
          clear hb3 HR HCA
          
          have HP := Lib.hid (H3.out.put p1 hp1 p2)
          rw [HMK.out] at HP
          go_wp2_with fail
          refine HP.out.mono ?_
          rintro e w4 ⟨rfl, V4, lv4, h4⟩
          have c3 := (h4.cs HC3.out HBOX.out).get 2 _
          have f3 := (h4.cs HC3.out HBOX.out).lt
          have H4 := Lib.hid h4.s
          clear h4 HP H3 hlk c1 c2 f1
          go_wp2_with (at_mapUpdate; refine wpList_update_mmN _ rfl _ _ _ _ rfl 9 3 Try.underlying28 Try.underlying9 key_str str_inj rfl H4.out.mm (keyB p1) _ rfl rfl ?_)
          intro w5 n5 hn5 hm5 hg5
          have H5 := Lib.hid (H4.out.setp p2 rfl hm5 hg5 (hn5.out.trans (cnt_put hp1 M p2 lv lv4 H4.out.cnt H4.out.cnt')))
          have HG : Hid (upd M (keyB p1) (some p2) (keyB p1) = some p2) := Lib.hid (upd_same _ _ _)
          clear hm5 hg5 hn5 c3 f3
          
          have hget : (upd M (keyB p1) (some p2)) (keyB p1) = some p2 := HG.out
          have GET := H5.out.get p1 hp1 _ hget
          have HGET := Lib.hid GET
          clear GET hget
          go_wp2_with fail
          refine HGET.out.mono ?_
          rintro e w6 ⟨rfl, h6⟩
          have H6 := Lib.hid h6
          have hlk6 := h6.look (keyB p1)
          rw [HG.out] at hlk6
          simp only [Option.map_some, Option.map_none, Option.getD_some, Option.getD_none, Option.isSome_some, Option.isSome_none] at hlk6
          have hln6 := fun ty => h6.mm.len (P := Try.prog) Try.underlying28 ty
          have LEN := Lib.hid h6.len
          clear h6 HGET
          go_wp2_with fail
          refine LEN.out.mono ?_
          rintro e w7 ⟨rfl, rfl⟩
          go_wp2_with fail
          go_roundw
          case rel => exact ⟨k + 1, _, _, _, by omega, by go_num, Lib.hid H6.out⟩
          case measure => simp [intOf]; omega
        · go_wp2_with fail
          refine (key15_any p1 hp1 _).mono ?_
          rintro e w3 ⟨rfl, hb3⟩
          have H3 := Lib.hid (HR.out.below (((Below.refl wr.heap.size wr).alloc (Nat.le_refl _) _).trans (hb3.mono (by simp))))
          have c1 := (HCA.out.below hb3).get 0 _
          have c2 := (HCA.out.below hb3).get 2 _
          have f1 := (HCA.out.below hb3).lt
          have HC3 := Lib.hid (HCA.out.below hb3)
          have hlk := H3.out.look (keyB p1)
          rw [HMK.out] at hlk
          simp only [Option.map_some, Option.map_none, Option.getD_some, Option.getD_none, Option.isSome_some, Option.isSome_none] at hlk
          clear hb3 HR HCA
          
          have HP := Lib.hid (H3.out.del p1 hp1)
          rw [HMK.out] at HP
          go_wp2_with fail
          refine HP.out.mono ?_
          rintro e w4 ⟨rfl, lv4, h4⟩
          have H4 := Lib.hid h4
          clear h4 HP H3 hlk c1 c2 f1
          go_wp2_with (at_delete; refine wpList_delete_mmN _ rfl _ _ _ _ rfl 3 Try.underlying28 Try.underlying9 key_str str_inj rfl H4.out.mm (keyB p1) rfl ?_)
          intro w5 n5 hn5 hm5 hg5
          have H5 := Lib.hid (H4.out.setd rfl hm5 hg5 (hn5.out.trans (cnt_del hp1 M lv lv4 H4.out.cnt H4.out.cnt')))
          have HG : Hid (upd M (keyB p1) none (keyB p1) = none) := Lib.hid (upd_same _ _ _)
          clear hm5 hg5 hn5
          
          have hget : (upd M (keyB p1) none) (keyB p1) = none := HG.out
          have GET := H5.out.get p1 hp1 _ hget
          have HGET := Lib.hid GET
          clear GET hget
          go_wp2_with fail
          refine HGET.out.mono ?_
          rintro e w6 ⟨rfl, h6⟩
          have H6 := Lib.hid h6
          have hlk6 := h6.look (keyB p1)
          rw [HG.out] at hlk6
          simp only [Option.map_some, Option.map_none, Option.getD_some, Option.getD_none, Option.isSome_some, Option.isSome_none] at hlk6
          have hln6 := fun ty => h6.mm.len (P := Try.prog) Try.underlying28 ty
          have LEN := Lib.hid h6.len
          clear h6 HGET
          go_wp2_with fail
          refine LEN.out.mono ?_
          rintro e w7 ⟨rfl, rfl⟩
          go_wp2_with fail
          go_roundw
          case rel => exact ⟨k + 1, _, _, _, by omega, by go_num, Lib.hid H6.out⟩
          case measure => simp [intOf]; omega
        · go_wp2_with fail
          refine (key15_any p1 hp1 _).mono ?_
          rintro e w3 ⟨rfl, hb3⟩
          have H3 := Lib.hid (HR.out.below (((Below.refl wr.heap.size wr).alloc (Nat.le_refl _) _).trans (hb3.mono (by simp))))
          have c1 := (HCA.out.below hb3).get 0 _
          have c2 := (HCA.out.below hb3).get 2 _
          have f1 := (HCA.out.below hb3).lt
          have HC3 := Lib.hid (HCA.out.below hb3)
          have hlk := H3.out.look (keyB p1)
          rw [HMK.out] at hlk
          simp only [Option.map_some, Option.map_none, Option.getD_some, Option.getD_none, Option.isSome_some, Option.isSome_none] at hlk
          clear hb3 HR HCA
          
          have HG : Hid (M (keyB p1) = none) := HMK
          
          have hget : (M) (keyB p1) = none := HG.out
          have GET := H3.out.get p1 hp1 _ hget
          have HGET := Lib.hid GET
          clear GET hget
          go_wp2_with fail
          refine HGET.out.mono ?_
          rintro e w6 ⟨rfl, h6⟩
          have H6 := Lib.hid h6
          have hlk6 := h6.look (keyB p1)
          rw [HG.out] at hlk6
          simp only [Option.map_some, Option.map_none, Option.getD_some, Option.getD_none, Option.isSome_some, Option.isSome_none] at hlk6
          have hln6 := fun ty => h6.mm.len (P := Try.prog) Try.underlying28 ty
          have LEN := Lib.hid h6.len
          clear h6 HGET
          go_wp2_with fail
          refine LEN.out.mono ?_
          rintro e w7 ⟨rfl, rfl⟩
          go_wp2_with fail
          go_roundw
          case rel => exact ⟨k + 1, _, _, _, by omega, by go_num, Lib.hid H6.out⟩
          case measure => simp [intOf]; omega
      | some x =>
        have HMK := Lib.hid hmk
        clear hmk
        rcases HR4.out with rfl | rfl | rfl | rfl
        · go_wp2_with fail
          refine (key15_any p1 hp1 _).mono ?_
          rintro e w3 ⟨rfl, hb3⟩
          have H3 := Lib.hid (HR.out.below (((Below.refl wr.heap.size wr).alloc (Nat.le_refl _) _).trans (hb3.mono (by simp))))
          have c1 := (HCA.out.below hb3).get 0 _
          have c2 := (HCA.out.below hb3).get 2 _
          have f1 := (HCA.out.below hb3).lt
          have HC3 := Lib.hid (HCA.out.below hb3)
          have hlk := H3.out.look (keyB p1)
          rw [HMK.out] at hlk
          simp only [Option.map_some, Option.map_none, Option.getD_some, Option.getD_none, Option.isSome_some, Option.isSome_none] at hlk
          clear hb3 HR HCA
          
          have HP := Lib.hid (H3.out.put p1 hp1 p2)
          rw [HMK.out] at HP
          go_wp2_with fail
          refine HP.out.mono ?_
          rintro e w4 ⟨rfl, V4, lv4, h4⟩
          have c3 := (h4.cs HC3.out HBOX.out).get 2 _
          have f3 := (h4.cs HC3.out HBOX.out).lt
          have H4 := Lib.hid h4.s
          clear h4 HP H3 hlk c1 c2 f1
          go_wp2_with (at_mapUpdate; refine wpList_update_mmN _ rfl _ _ _ _ rfl 9 3 Try.underlying28 Try.underlying9 key_str str_inj rfl H4.out.mm (keyB p1) _ rfl rfl ?_)
          intro w5 n5 hn5 hm5 hg5
          have H5 := Lib.hid (H4.out.setp p2 rfl hm5 hg5 (hn5.out.trans (cnt_put hp1 M p2 lv lv4 H4.out.cnt H4.out.cnt')))
          have HG : Hid (upd M (keyB p1) (some p2) (keyB p1) = some p2) := Lib.hid (upd_same _ _ _)
          clear hm5 hg5 hn5 c3 f3
          
          have hget : (upd M (keyB p1) (some p2)) (keyB p1) = some p2 := HG.out
          have GET := H5.out.get p1 hp1 _ hget
          have HGET := Lib.hid GET
          clear GET hget
          go_wp2_with fail
          refine HGET.out.mono ?_
          rintro e w6 ⟨rfl, h6⟩
          have H6 := Lib.hid h6
          have hlk6 := h6.look (keyB p1)
          rw [HG.out] at hlk6
          simp only [Option.map_some, Option.map_none, Option.getD_some, Option.getD_none, Option.isSome_some, Option.isSome_none] at hlk6
          have hln6 := fun ty => h6.mm.len (P := Try.prog) Try.underlying28 ty
          have LEN := Lib.hid h6.len
          clear h6 HGET
          go_wp2_with fail
          refine LEN.out.mono ?_
          rintro e w7 ⟨rfl, rfl⟩
          go_wp2_with fail
          go_roundw
          case rel => exact ⟨k + 1, _, _, _, by omega, by go_num, Lib.hid H6.out⟩
          case measure => simp [intOf]; omega
        · go_wp2_with fail
          refine (key15_any p1 hp1 _).mono ?_
          rintro e w3 ⟨rfl, hb3⟩
          have H3 := Lib.hid (HR.out.below (((Below.refl wr.heap.size wr).alloc (Nat.le_refl _) _).trans (hb3.mono (by simp))))
          have c1 := (HCA.out.below hb3).get 0 _
          have c2 := (HCA.out.below hb3).get 2 _
          have f1 := (HCA.out.below hb3).lt
          have HC3 := Lib.hid (HCA.out.below hb3)
          have hlk := H3.out.look (keyB p1)
          rw [HMK.out] at hlk
          simp only [Option.map_some, Option.map_none, Option.getD_some, Option.getD_none, Option.isSome_some, Option.isSome_none] at hlk
          clear hb3 HR HCA
          
          have HP := Lib.hid (H3.out.put p1 hp1 p2)
          rw [HMK.out] at HP
          go_wp2_with fail
          refine HP.out.mono ?_
          rintro e w4 ⟨rfl, V4, lv4, h4⟩
          have c3 := (h4.cs HC3.out HBOX.out).get 2 _
          have f3 := (h4.cs HC3.out HBOX.out).lt
          have H4 := Lib.hid h4.s
          clear h4 HP H3 hlk c1 c2 f1
          go_wp2_with (at_mapUpdate; refine wpList_update_mmN _ rfl _ _ _ _ rfl 9 3 Try.underlying28 Try.underlying9 key_str str_inj rfl H4.out.mm (keyB p1) _ rfl rfl ?_)
          intro w5 n5 hn5 hm5 hg5
          have H5 := Lib.hid (H4.out.setp p2 rfl hm5 hg5 (hn5.out.trans (cnt_put hp1 M p2 lv lv4 H4.out.cnt H4.out.cnt')))
          have HG : Hid (upd M (keyB p1) (some p2) (keyB p1) = some p2) := Lib.hid (upd_same _ _ _)
          clear hm5 hg5 hn5 c3 f3
          
          have hget : (upd M (keyB p1) (some p2)) (keyB p1) = some p2 := HG.out
          have GET := H5.out.get p1 hp1 _ hget
          have HGET := Lib.hid GET
          clear GET hget
          go_wp2_with fail
          refine HGET.out.mono ?_
          rintro e w6 ⟨rfl, h6⟩
          have H6 := Lib.hid h6
          have hlk6 := h6.look (keyB p1)
          rw [HG.out] at hlk6
          simp only [Option.map_some, Option.map_none, Option.getD_some, Option.getD_none, Option.isSome_some, Option.isSome_none] at hlk6
          have hln6 := fun ty => h6.mm.len (P := Try.prog) Try.underlying28 ty
          have LEN := Lib.hid h6.len
          clear h6 HGET
          go_wp2_with fail
          refine LEN.out.mono ?_
          rintro e w7 ⟨rfl, rfl⟩
          go_wp2_with fail
          go_roundw
          case rel => exact ⟨k + 1, _, _, _, by omega, by go_num, Lib.hid H6.out⟩
          case measure => simp [intOf]; omega
        · go_wp2_with fail
          refine (key15_any p1 hp1 _).mono ?_
          rintro e w3 ⟨rfl, hb3⟩
          have H3 := Lib.hid (HR.out.below (((Below.refl wr.heap.size wr).alloc (Nat.le_refl _) _).trans (hb3.mono (by simp))))
          have c1 := (HCA.out.below hb3).get 0 _
          have c2 := (HCA.out.below hb3).get 2 _
          have f1 := (HCA.out.below hb3).lt
          have HC3 := Lib.hid (HCA.out.below hb3)
          have hlk := H3.out.look (keyB p1)
          rw [HMK.out] at hlk
          simp only [Option.map_some, Option.map_none, Option.getD_some, Option.getD_none, Option.isSome_some, Option.isSome_none] at hlk
          clear hb3 HR HCA
          
          have HP := Lib.hid (H3.out.del p1 hp1)
          rw [HMK.out] at HP
          go_wp2_with fail
          refine HP.out.mono ?_
          rintro e w4 ⟨rfl, lv4, h4⟩
          have H4 := Lib.hid h4
          clear h4 HP H3 hlk c1 c2 f1
          go_wp2_with (at_delete; refine wpList_delete_mmN _ rfl _ _ _ _ rfl 3 Try.underlying28 Try.underlying9 key_str str_inj rfl H4.out.mm (keyB p1) rfl ?_)
          intro w5 n5 hn5 hm5 hg5
          have H5 := Lib.hid (H4.out.setd rfl hm5 hg5 (hn5.out.trans (cnt_del hp1 M lv lv4 H4.out.cnt H4.out.cnt')))
          have HG : Hid (upd M (keyB p1) none (keyB p1) = none) := Lib.hid (upd_same _ _ _)
          clear hm5 hg5 hn5
          
          have hget : (upd M (keyB p1) none) (keyB p1) = none := HG.out
          have GET := H5.out.get p1 hp1 _ hget
          have HGET := Lib.hid GET
          clear GET hget
          go_wp2_with fail
          refine HGET.out.mono ?_
          rintro e w6 ⟨rfl, h6⟩
          have H6 := Lib.hid h6
          have hlk6 := h6.look (keyB p1)
          rw [HG.out] at hlk6
          simp only [Option.map_some, Option.map_none, Option.getD_some, Option.getD_none, Option.isSome_some, Option.isSome_none] at hlk6
          have hln6 := fun ty => h6.mm.len (P := Try.prog) Try.underlying28 ty
          have LEN := Lib.hid h6.len
          clear h6 HGET
          go_wp2_with fail
          refine LEN.out.mono ?_
          rintro e w7 ⟨rfl, rfl⟩
          go_wp2_with fail
          go_roundw
          case rel => exact ⟨k + 1, _, _, _, by omega, by go_num, Lib.hid H6.out⟩
          case measure => simp [intOf]; omega
        · go_wp2_with fail
          refine (key15_any p1 hp1 _).mono ?_
          rintro e w3 ⟨rfl, hb3⟩
          have H3 := Lib.hid (HR.out.below (((Below.refl wr.heap.size wr).alloc (Nat.le_refl _) _).trans (hb3.mono (by simp))))
          have c1 := (HCA.out.below hb3).get 0 _
          have c2 := (HCA.out.below hb3).get 2 _
          have f1 := (HCA.out.below hb3).lt
          have HC3 := Lib.hid (HCA.out.below hb3)
          have hlk := H3.out.look (keyB p1)
          rw [HMK.out] at hlk
          simp only [Option.map_some, Option.map_none, Option.getD_some, Option.getD_none, Option.isSome_some, Option.isSome_none] at hlk
          clear hb3 HR HCA
          
          have HG : Hid (M (keyB p1) = some x) := HMK
          
          have hget : (M) (keyB p1) = some x := HG.out
          have GET := H3.out.get p1 hp1 _ hget
          have HGET := Lib.hid GET
          clear GET hget
          go_wp2_with fail
          refine HGET.out.mono ?_
          rintro e w6 ⟨rfl, h6⟩
          have H6 := Lib.hid h6
          have hlk6 := h6.look (keyB p1)
          rw [HG.out] at hlk6
          simp only [Option.map_some, Option.map_none, Option.getD_some, Option.getD_none, Option.isSome_some, Option.isSome_none] at hlk6
          have hln6 := fun ty => h6.mm.len (P := Try.prog) Try.underlying28 ty
          have LEN := Lib.hid h6.len
          clear h6 HGET
          go_wp2_with fail
          refine LEN.out.mono ?_
          rintro e w7 ⟨rfl, rfl⟩
          go_wp2_with fail
          go_roundw
          case rel => exact ⟨k + 1, _, _, _, by omega, by go_num, Lib.hid H6.out⟩
          case measure => simp [intOf]; omega
    · obtain rfl : k = n := by omega
      have hkn' : ¬ (k : Int) < k := by omega
      go_wp2_with fail
      go_loopw [14] (fun i wr => ∃ (j : Nat), j ≤ 256 ∧ i = .int .i64 j ∧ Hid (ScriptS w b h V M M lv lv wr)) (fun i _ => 256 - (intOf i).toNat)
      case atStart => exact ⟨0, by omega, rfl, HR⟩
      case round =>
        obtain ⟨j, hj, rfl, HR⟩ := hrel
        by_cases hjk : j < 256
        · have hjk' : (j : Int) < 256 := by omega
          have hmod : (j : Int) % 256 = j := by omega
          obtain ⟨mk, hmk⟩ : ∃ mk, M (keyB j) = mk := ⟨_, rfl⟩
          have GET : Hid (∀ wx, Below wr.heap.size wr wx → Calls Try.prog 11 #[.pointer (some ⟨b, 0, none⟩), .string (keyB j)] wx fun e w' => e = .returned (.tuple #[.int .i64 (mk.getD 0), .bool mk.isSome]) ∧ ScriptS w b h V M M lv lv w') := Lib.hid (fun wx hb => (HR.out.below hb).get j hjk mk hmk)
          have HMK := Lib.hid hmk
          clear hmk
          cases mk with
          | none =>
            go_wp2_with fail
            refine (key15_any j hjk _).mono ?_
            rintro e w3 ⟨rfl, hb3⟩
            have GET3 := Lib.hid (GET.out w3 hb3)
            clear hb3 GET
            go_wp2_with fail
            refine GET3.out.mono ?_
            rintro e w4 ⟨rfl, h4⟩
            have H4 := Lib.hid h4
            clear h4 GET3
            go_wp2_with fail
            refine (key15_any j hjk _).mono ?_
            rintro e w5 ⟨rfl, hb5⟩
            have h5 := H4.out.below hb5
            have hlk5 := h5.look (keyB j)
            rw [HMK.out] at hlk5
            simp only [Option.map_some, Option.map_none, Option.getD_some, Option.getD_none, Option.isSome_some, Option.isSome_none] at hlk5
            have H5 := Lib.hid h5
            clear h5 hb5
            go_wp2_with fail
            go_roundw
            case rel => exact ⟨j + 1, by omega, by go_num, H5⟩
            case measure => simp [intOf]; omega
          | some x =>
            go_wp2_with fail
            refine (key15_any j hjk _).mono ?_
            rintro e w3 ⟨rfl, hb3⟩
            have GET3 := Lib.hid (GET.out w3 hb3)
            clear hb3 GET
            go_wp2_with fail
            refine GET3.out.mono ?_
            rintro e w4 ⟨rfl, h4⟩
            have H4 := Lib.hid h4
            clear h4 GET3
            go_wp2_with fail
            refine (key15_any j hjk _).mono ?_
            rintro e w5 ⟨rfl, hb5⟩
            have h5 := H4.out.below hb5
            have hlk5 := h5.look (keyB j)
            rw [HMK.out] at hlk5
            simp only [Option.map_some, Option.map_none, Option.getD_some, Option.getD_none, Option.isSome_some, Option.isSome_none] at hlk5
            have H5 := Lib.hid h5
            clear h5 hb5
            go_wp2_with fail
            go_roundw
            case rel => exact ⟨j + 1, by omega, by go_num, H5⟩
            case measure => simp [intOf]; omega
        · have hjk' : ¬ (j : Int) < 256 := by omega
          go_wp2_with fail
          go_ret
          exact ⟨rfl, HR.out.bel⟩
end Go.Proofs.Ytikbekchddinfaa
