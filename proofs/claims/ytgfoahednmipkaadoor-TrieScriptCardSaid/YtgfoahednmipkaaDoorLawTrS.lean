/- The walk of TrieScript. -/
import Derived.Test.YtgfoahednmipkaaDoorTrN
namespace Go.Proofs.YtgfoahednmipkaaDoor
open Go.RowKit
set_option linter.unusedVariables false
set_option linter.unusedSimpArgs false
set_option maxRecDepth 20000
/-- A trie's numbers as a map's. -/
def mOf (t : Tr) : ByteArray → Option Value := fun k => (getR t k.data.toList).map (Value.int .i64)
theorem mOf_sb (t : Tr) (q : List UInt8) : mOf t (sb q) = (getR t q).map (Value.int .i64) := by unfold mOf; rw [sb_list]
theorem mOf_put {t t' : Tr} {q : List UInt8} {x : Int} (h : ∀ q', getR t' q' = if q' = q then some x else getR t q') : updM (mOf t) (sb q) (some (.int .i64 x)) = mOf t' := by
  funext k
  unfold updM mOf
  rw [h]
  by_cases e : k = sb q
  · subst e; rw [if_pos rfl, sb_list, if_pos rfl]; rfl
  · rw [if_neg e, if_neg]
    intro e2; apply e; rw [← e2, sb_of]
theorem mOf_del {t t' : Tr} {q : List UInt8} (h : ∀ q', getR t' q' = if q' = q then none else getR t q') : updM (mOf t) (sb q) none = mOf t' := by
  funext k
  unfold updM mOf
  rw [h]
  by_cases e : k = sb q
  · subst e; rw [if_pos rfl, sb_list, if_pos rfl]; rfl
  · rw [if_neg e, if_neg]
    intro e2; apply e; rw [← e2, sb_of]
theorem zero_int16 (w : World) : (zeroValue 3).run Tryd.prog w = .ok (.int .i64 0) w := by kernel_rfl
theorem look16 {w : World} {h n : Nat} {t : Tr} (hm : MM Value.string w h (mOf t) n) (q : List UInt8) : (Instr.lookup 29 (.map (some h)) (.string (sb q)) true).run Tryd.prog w = .ok (.tuple #[((getR t q).map (Value.int .i64)).getD (.int .i64 0), .bool ((getR t q).map (Value.int .i64)).isSome]) w := by
  have := hm.lookup Tryd.underlying29 Tryd.underlying9 key_str (zero_int16 _) (sb q)
  rwa [mOf_sb] at this
set_option maxHeartbeats 1600000 in
/-- bolterlaw16.longest, of a map that has a trie's numbers. -/
theorem longest16_any (h n : Nat) (t : Tr) (w : World) (q : List UInt8) (hm : MM Value.string w h (mOf t) n) (ho : t.Ok []) (hf : t.Fit) (hq : mayL q = true) :
    Calls Tryd.prog 17 #[.map (some h), .string (sb q)] w fun e w' => e = .returned (longV (if mayL q then longR t q none else none)) ∧ w = w' := by
  obtain ⟨hl, hb⟩ := (mayL_iff q).1 hq
  have hsz := sb_size q
  have HTK := Lib.hid (fun k => sb_take q k)
  have HLK := Lib.hid (fun k => look16 hm (q.take k))
  have HIS := Lib.hid (fun (k : Nat) (v : Int) (hk : k ≤ q.length) => long_is (t := t) (n := k) (v := v) ho hf hq hk)
  have HNO := Lib.hid (long_no (t := t) (q := q) ho hf)
  obtain ⟨L, hL⟩ : ∃ L, q.length = L := ⟨_, rfl⟩
  rw [hL] at hsz hl HIS HNO
  obtain ⟨R, hR⟩ : ∃ R, (if mayL q then longR t q none else none) = R := ⟨_, rfl⟩
  simp only [hR] at HIS HNO
  rw [hR]
  obtain ⟨QS, hQS⟩ : ∃ QS, sb q = QS := ⟨_, rfl⟩
  simp only [hQS] at HTK
  rw [hQS] at hsz ⊢
  clear hQS hL hb hq hm ho hf hR
  go_enter Tryd.func17, Tryd.ntmps17
  go_wp2_with fail
  go_loop [7] (fun i => ∃ x : Int, -1 ≤ x ∧ x ≤ L ∧ i = .int .i64 x ∧ Hid (∀ m : Nat, x < m → m ≤ L → getR t (q.take m) = none)) (fun i => (intOf i + 1).toNat)
  case atStart => exact ⟨L, by omega, Int.le_refl _, rfl, Lib.hid (fun m h1 h2 => by omega)⟩
  case round =>
    obtain ⟨x, hx1, hx2, rfl, HN⟩ := hrel
    by_cases hx0 : 0 ≤ x
    · obtain ⟨k, rfl⟩ : ∃ k : Nat, x = k := ⟨x.toNat, by omega⟩
      have htk := HTK.out k
      have hlk := HLK.out k
      have hkL : k ≤ L := by omega
      have d2 : (k : Int) ≤ QS.size := by omega
      have d3 : k ≤ QS.size := by omega
      obtain ⟨KB, hKB⟩ : ∃ KB, sb (q.take k) = KB := ⟨_, rfl⟩
      rw [hKB] at htk hlk
      clear hKB hx1 hx2
      cases hg : getR t (q.take k) with
      | none =>
        rw [hg] at hlk
        simp only [Option.map_none, Option.getD_none, Option.isSome_none] at hlk
        have HG := Lib.hid hg
        clear hg
        have HN2 : Hid (∀ m : Nat, (k : Int) - 1 < m → m ≤ L → getR t (q.take m) = none) := Lib.hid (fun m h1 h2 => by
          by_cases e : m = k
          · subst e; exact HG.out
          · exact HN.out m (by omega) h2)
        go_wp2_with fail
        go_round
        case rel => exact ⟨(k : Int) - 1, by omega, by omega, rfl, HN2⟩
        case measure => first | (simp [intOf]; done) | (simp [intOf]; omega)
      | some v =>
        rw [hg] at hlk
        simp only [Option.map_some, Option.getD_some, Option.isSome_some] at hlk
        have HR : Hid (R = some (k, v)) := Lib.hid (HIS.out k v hkL hg (fun m h1 h2 => HN.out m (by omega) h2))
        clear hg HN HIS HNO
        go_wp2_with fail
        refine bodyPost_ret (v := .tuple #[.int .i64 v, .int .i64 (k : Nat), .bool true]) (by simp [results, Tryd.results17, go_sem]) rfl ?_
        exact ⟨by rw [HR.out]; rfl, rfl⟩
    · obtain rfl : x = -1 := by omega
      have HR : Hid (R = none) := Lib.hid (HNO.out (fun m h2 => HN.out m (by omega) h2))
      clear HN HIS HNO hx1 hx2 hx0
      go_wp2_with fail
      refine bodyPost_ret (v := .tuple #[.int .i64 0, .int .i64 0, .bool false]) (by simp [results, Tryd.results17, go_sem]) rfl ?_
      exact ⟨by rw [HR.out]; rfl, rfl⟩
/-- The law's trie and its map. -/
structure ScrT (w : World) (a h : Nat) (wr : World) (t : Tr) (bs : List Nat) : Prop where
  tl : TrL w w.heap.size a bs t wr
  mm : MM Value.string wr h (mOf t) t.keys.length
  ha : h ≠ a
  hb : h ∉ bs
  base : w.heap.size ≤ h
  keys : ∀ q, (getR t q).isSome = true → IsKey q
section
variable {w wr w' : World} {a h : Nat} {t : Tr} {bs : List Nat}
theorem ScrT.below (s : ScrT w a h wr t bs) (hb : Below wr.heap.size wr w') : ScrT w a h w' t bs := ⟨s.tl.below hb, s.mm.below hb, s.ha, s.hb, s.base, s.keys⟩
theorem ScrT.few (s : ScrT w a h wr t bs) : t.keys.length ≤ 917504 := keys_few s.tl.ok s.tl.fit s.keys
/-- The trie is turned, the map not yet. -/
structure ScrM (w : World) (a h : Nat) (wr : World) (t t' : Tr) (bs' : List Nat) : Prop where
  tl : TrL w w.heap.size a bs' t' wr
  mm : MM Value.string wr h (mOf t) t.keys.length
  ha : h ≠ a
  hb : h ∉ bs'
  base : w.heap.size ≤ h
  keys : ∀ q, (getR t' q).isSome = true → IsKey q
theorem ScrT.put (s : ScrT w a h wr t bs) {q : List UInt8} {x : Int} (hq : IsKey q) (hp : PutQ w w.heap.size a bs t q x wr w') :
    ∃ t' bs', ScrM w a h w' t t' bs' ∧ (∀ q', getR t' q' = if q' = q then some x else getR t q') ∧ (t'.keys.length = if (getR t q).isSome then t.keys.length else t.keys.length + 1) ∧ Only (fun y => y = a ∨ y ∈ bs) wr w' := by
  obtain ⟨t', bs', h1, h2, h3, h4, h5⟩ := hp
  have hlt := s.mm.lt
  refine ⟨t', bs', ⟨h1, h4.mm s.mm (fun e => e.elim s.ha s.hb), s.ha, fun e => ?_, s.base, fun q' hs => ?_⟩, h2, h3, h4⟩
  · rcases h5 h e with e2 | e2
    · exact s.hb e2
    · omega
  · rw [h2] at hs
    split at hs
    · rename_i e; rw [e]; exact hq
    · exact s.keys q' hs
theorem ScrT.del (s : ScrT w a h wr t bs) {q : List UInt8} (hp : DelQ w w.heap.size a bs t q wr w') :
    ∃ t' bs', ScrM w a h w' t t' bs' ∧ (∀ q', getR t' q' = if q' = q then none else getR t q') ∧ (t'.keys.length = if (getR t q).isSome then t.keys.length - 1 else t.keys.length) ∧ Only (fun y => y = a ∨ y ∈ bs) wr w' := by
  obtain ⟨t', bs', h1, h2, h3, h4, h5⟩ := hp
  have hlt := s.mm.lt
  refine ⟨t', bs', ⟨h1, h4.mm s.mm (fun e => e.elim s.ha s.hb), s.ha, fun e => ?_, s.base, fun q' hs => ?_⟩, h2, h3, h4⟩
  · rcases h5 h e with e2 | e2
    · exact s.hb e2
    · omega
  · rw [h2] at hs
    split at hs
    · cases hs
    · exact s.keys q' hs
theorem ScrM.map {t' : Tr} {M : ByteArray → Option Value} {n : Nat} (s : ScrM w a h wr t t' bs) (hm : MM Value.string w' h M n) (hM : M = mOf t') (hn : n = t'.keys.length) (hg : wr.grownBy w' (some h)) : ScrT w a h w' t' bs := by
  subst hM hn
  have ho : Only (fun q => q = h) wr w' := (Only.refl _ wr).grown hg (fun k e _ => by injection e with e; exact e.symm)
  exact ⟨s.tl.only ho (fun e => s.ha e.symm) (fun x hx e => s.hb (by rw [← e]; exact hx)) (fun x e => by rw [e]; exact s.base), hm, s.ha, s.hb, s.base, s.keys⟩
end
def incN (b : Bool) (n : Nat) : Nat := if b then n else n + 1
def decN (b : Bool) (n : Nat) : Nat := if b then n - 1 else n
section
variable {κ : Type} {K : κ → Value} {b n : Nat} {M : κ → Option Value} {P : Program} {d : TypeDesc} (w : World) {ops : Array Oper} {rest : List Oper} {o : Oper} {a : Act} {Q : Exit → Act → World → Prop}
theorem wpList_update_mmN (hg : o.guard = none) (m x v : Operand) (t : TypeId) (hop : o.op = Op.mapUpdate t m x v) (kt e : TypeId) (ht : P.underlying t = some (.map kt e)) (hd : P.underlying kt = some d) (hK : ∀ a, MapKept.IsKey d (K a)) (hI : ∀ a c, K a = K c → a = c)
    (hm : a.eval m = .map (some b)) (hown : MM K w b M n) (k : κ) (val : Value) (hx : a.eval x = K k) (hv : a.eval v = val)
    (hC : ∀ w' n', Hid (n' = incN (M k).isSome n) → MM K w' b (updM M k (some val)) n' → w.grownBy w' (some b) → wpList P ops Q rest (a.put o.dst undef) w') :
    wpList P ops Q (o :: rest) a w := wpList_update_mm w hg m x v t hop kt e ht hd hK hI hm hown k val hx hv (fun w' h1 h2 => hC w' _ (Lib.hid rfl) h1 h2)
theorem wpList_delete_mmN (hg : o.guard = none) (m x : Operand) (t kt : TypeId) (hop : o.op = Op.call { callee := Callee.builtin Builtin.delete, args := #[m, x], argTypes := #[t, kt] }) (e : TypeId) (ht : P.underlying t = some (.map kt e)) (hd : P.underlying kt = some d) (hK : ∀ a, MapKept.IsKey d (K a)) (hI : ∀ a c, K a = K c → a = c)
    (hm : a.eval m = .map (some b)) (hown : MM K w b M n) (k : κ) (hx : a.eval x = K k)
    (hC : ∀ w' n', Hid (n' = decN (M k).isSome n) → MM K w' b (updM M k none) n' → w.grownBy w' (some b) → wpList P ops Q rest (a.put o.dst (.tuple #[])) w') :
    wpList P ops Q (o :: rest) a w := wpList_delete_mm w hg m x t kt hop e ht hd hK hI hm hown k hx (fun w' h1 h2 => hC w' _ (Lib.hid rfl) h1 h2)
end
set_option maxHeartbeats 12800000 in
theorem trieScript_walk (w : World) (A : Option Addr) (n c : Nat) (z : List Ints4T) (hS : Ints4 .u8 .u16 .u8 .i64 w A n c z)
    (A2 : Option Addr) (n2 c2 : Nat) (zs : List Int) (hV2 : SlView w A2 n2 c2 (zs.map (Value.int .u16))) (hl2 : zs.length = n2) (hzw2 : ∀ z ∈ zs, (Lit.int .u16 z).wf = true) (hc2 : c2 ≤ 70368744175616) :
    Calls Tryd.prog 3 #[.slice A n c, .slice A2 n2 c2] w fun e w' => e = .returned (.bool true) ∧ Below w.heap.size w w' := by
  have hnm : n ≤ 9223372036854775807 := Nat.le_trans hS.le (Nat.le_trans hS.max (by decide))
  have HS := Lib.hid hS
  have HSL := Lib.hid hV2.sl
  have HZW := Lib.hid hzw2
  have HL2 := Lib.hid hl2
  have hnc2 : n2 ≤ c2 := hV2.le
  obtain ⟨p, hp⟩ : ∃ p : Nat, p = min n2 8 := ⟨_, rfl⟩
  have hmin : min (n2 : Int) 8 = p := by omega
  have hp8 : p ≤ n2 := by omega
  have hpc : p ≤ c2 := by omega
  clear hS hV2 hl2 hzw2 hp
  have hmm := @run_makeMap Tryd.prog
  go_enter Tryd.func3, Tryd.ntmps3
  go_wp2_with fail
  refine (awake16_any _).mono ?_
  rintro e w1 ⟨rfl, hb1⟩
  have HB1 := Lib.hid hb1
  clear hb1
  go_wp2_with fail
  have h0 : Hid (∃ t bs, ScrT w w1.heap.size (w1.heap.size + 1) ((w1.alloc (.cells #[.pointer none, .int .i64 0] 28)).alloc (.map #[] 0)) t bs) := Lib.hid (by
    have tl := TrL.start w1 28 w _ HB1.out.size HB1.out
    have hm := MM.new Value.string (w1.alloc (.cells #[.pointer none, .int .i64 0] 28))
    have hz : (w1.alloc (.cells #[.pointer none, .int .i64 0] 28)).heap.size = w1.heap.size + 1 := by simp
    have hn : ∀ q, getR .nil q = none := fun q => by unfold getR; split <;> rfl
    exact ⟨.nil, [], tl.below ((Below.refl _ _).alloc (Nat.le_refl _) _), (hm.at_ _ hz).is (by funext k; unfold mOf; rw [hn]; rfl) rfl, by omega, by simp, by have := HB1.out.size; omega, fun q hs => by rw [hn] at hs; cases hs⟩)
  generalize hW2 : ((w1.alloc (.cells #[.pointer none, .int .i64 0] 28)).alloc (.map #[] 0)) = w2 at *
  obtain ⟨a, ha⟩ : ∃ a, w1.heap.size = a := ⟨_, rfl⟩
  obtain ⟨h, hh⟩ : ∃ h, h = a + 1 := ⟨_, rfl⟩
  rw [ha] at h0 ⊢
  rw [← hh] at h0 ⊢
  clear hW2 ha hmm hh HB1
  go_loopw [31] (fun i wr => ∃ (k : Nat), k ≤ n ∧ i = .int .i64 k ∧ Hid (∃ t bs, ScrT w a h wr t bs)) (fun i _ => n - (intOf i).toNat)
  case atStart => exact ⟨0, Nat.zero_le _, rfl, h0⟩
  case round =>
    obtain ⟨k, hk, rfl, HR⟩ := hrel
    clear h0
    by_cases hkn : k < n
    · have hkn' : (k : Int) < n := by omega
      have hk0 : ¬ (k : Int) < 0 := by omega
      obtain ⟨g0, off, hAe, hg0, hcells⟩ := HS.out.cells (by omega)
      subst hAe
      have hkz : k < z.length := by rw [HS.out.len]; exact hkn
      obtain ⟨o1, o2, o3, o4⟩ := HS.out.ok _ (List.getElem_mem hkz)
      obtain ⟨d0, d1, d2, d3⟩ := hcells k _ (List.getElem?_eq_getElem hkz)
      obtain ⟨⟨p0, p1, p2, p3⟩, hp⟩ : ∃ p, z[k] = p := ⟨_, rfl⟩
      rw [hp] at o1 o2 o3 d0 d1 d2 d3
      simp only at o1 o2 o3 d0 d1 d2 d3
      obtain ⟨p0, rfl, hp0⟩ := u8_nat o1
      obtain ⟨p1, rfl, hp1⟩ := u16_nat o2
      obtain ⟨p2, rfl, hp2⟩ := u8_nat o3
      obtain ⟨t, bs, hT⟩ := HR.out
      have hbr : Below w.heap.size w wr := hT.tl.bel
      have e0 := (hbr.cell (p := ⟨g0, off + k * 4, none⟩) hg0).trans d0
      have e1 := (hbr.cell (p := ⟨g0, off + k * 4 + 1, none⟩) hg0).trans d1
      have e2 := (hbr.cell (p := ⟨g0, off + k * 4 + 2, none⟩) hg0).trans d2
      have e3 := (hbr.cell (p := ⟨g0, off + k * 4 + 3, none⟩) hg0).trans d3
      have hgr : g0 < wr.heap.size := Nat.lt_of_lt_of_le hg0 hbr.size
      have HAP : Hid (¬ (wr.heap.size = a ∨ wr.heap.size ∈ bs) ∧ wr.heap.size ≠ h) := Lib.hid ⟨fun e => by
        rcases e with e | e
        · have := hT.tl.lt; omega
        · have := hT.tl.lts _ e; omega, fun e => by have := hT.mm.lt; omega⟩
      have HCA : Hid (Cs (wr.alloc (.cells #[.int .u8 p0, .int .u16 p1, .int .u8 p2, .int .i64 p3] 32)) wr.heap.size [.int .u8 p0, .int .u16 p1, .int .u8 p2, .int .i64 p3]) := Lib.hid (Cs.new wr _ _ _)
      have HT := Lib.hid (hT.below ((Below.refl wr.heap.size wr).alloc (Nat.le_refl _) (.cells #[.int .u8 p0, .int .u16 p1, .int .u8 p2, .int .i64 p3] 32)))
      obtain ⟨KL, hKL⟩ : ∃ q, keyL p1 p2 = q := ⟨_, rfl⟩
      have HIK : Hid (IsKey KL) := Lib.hid ⟨p1, p2, hp1, hKL.symm⟩
      have HML : Hid (mayL KL = true) := Lib.hid (by rw [← hKL]; exact keyL_may p1 p2)
      have HKLL : Hid (KL.length ≤ 9223372036854775807) := Lib.hid (by rw [← hKL]; have := keyL_len p1 p2; omega)
      have HKEY := Lib.hid (fun w => key16_any p1 p2 hp1 hp2 w)
      rw [hKL] at HKEY
      obtain ⟨r, hr⟩ : ∃ r : Nat, (p0 : Int) % 3 = r := ⟨p0 % 3, by omega⟩
      have hr3 : r < 3 := by omega
      obtain ⟨mk, hmk⟩ : ∃ mk, getR t KL = mk := ⟨_, rfl⟩
      have HMK := Lib.hid hmk
      have HFEW : Hid (t.keys.length ≤ 1152921504606846976) := Lib.hid (Nat.le_trans hT.few (by decide))
      have hlk := look16 HT.out.mm KL
      rw [hmk] at hlk
      clear hcells hkz o1 o2 o3 o4 d0 d1 d2 d3 hp hbr hT HR hKL hmk hg0
      by_cases hr2 : r = 2
      · have d5 : ((r : Int) == 2) = true := by rw [hr2]; rfl
        have HDEL := Lib.hid (HT.out.tl.delAny KL HKLL.out HFEW.out)
        rw [HMK.out] at HDEL
        cases mk with
        | none =>
          simp only [Option.map_some, Option.map_none, Option.getD_some, Option.getD_none, Option.isSome_some, Option.isSome_none, Option.isNone_some, Option.isNone_none] at hlk HDEL
          go_wp2_with fail
          generalize (wr.alloc (.cells #[.int .u8 p0, .int .u16 p1, .int .u8 p2, .int .i64 p3] 32)) = wx at *
          obtain ⟨bx, hbx⟩ : ∃ bx, wr.heap.size = bx := ⟨_, rfl⟩
          rw [hbx] at HCA HAP ⊢
          clear hbx e0 e1 e2 e3 hgr
          refine (HKEY.out _).mono ?_
          rintro e w3 ⟨rfl, rfl⟩
          have c0 := HCA.out.get 0 _
          have cl := HCA.out.lt
          go_wp2_with fail
          refine HDEL.out.mono ?_
          rintro e w4 ⟨rfl, hdel⟩
          obtain ⟨t2, bs2, hM, hget, hlen, ho⟩ := HT.out.del hdel
          have HM := Lib.hid hM
          have HGET : Hid (getR t2 KL = none) := Lib.hid (by rw [hget, if_pos rfl])
          have HMAP := Lib.hid (mOf_del hget)
          have HLEN : Hid (decN ((getR t KL).map (Value.int .i64)).isSome t.keys.length = t2.keys.length) := Lib.hid (by rw [hlen, Option.isSome_map]; rfl)
          clear hM hget hlen ho hdel HDEL HT hlk c0 cl HCA HAP hr d5 hr2
          go_wp2_with (refine wpList_delete_mmN _ rfl _ _ _ _ rfl 3 Tryd.underlying29 Tryd.underlying9 key_str str_inj rfl HM.out.mm (sb KL) rfl ?_)
          intro w5 n5 hn5 hm5 hg5
          have H5 : Hid (ScrT w a h w5 t2 bs2) := Lib.hid (HM.out.map hm5 HMAP.out (by rw [hn5.out, mOf_sb]; exact HLEN.out) hg5)
          clear hn5 hm5 hg5 HM HMAP HLEN
          have HG := Lib.hid (H5.out.tl.get KL HKLL.out)
          rw [HGET.out] at HG
          simp only [Option.getD_some, Option.getD_none, Option.isSome_some, Option.isSome_none] at HG
          go_wp2_with fail
          refine HG.out.mono ?_
          rintro e w6 ⟨rfl, hb6⟩
          have H6 := Lib.hid (H5.out.below hb6)
          clear hb6 HG H5
          have hlk6 := look16 H6.out.mm KL
          rw [HGET.out] at hlk6
          simp only [Option.map_some, Option.map_none, Option.getD_some, Option.getD_none, Option.isSome_some, Option.isSome_none] at hlk6
          have hln6 := fun ty => H6.out.mm.len (P := Tryd.prog) Tryd.underlying29 ty
          have HLE := Lib.hid H6.out.tl.len
          have HNOD := Lib.hid (H6.out.tl.nodesAny H6.out.few)
          have HFW := Lib.hid H6.out.few
          have HNL := Lib.hid (nodes_le H6.out.tl.ok).1
          obtain ⟨K2, hK2⟩ : ∃ K2, t2.keys.length = K2 := ⟨_, rfl⟩
          obtain ⟨N2, hN2⟩ : ∃ N2, t2.nodes = N2 := ⟨_, rfl⟩
          simp only [hK2] at hln6
          rw [hK2] at HLE HNL HFW
          rw [hN2] at HNOD HNL
          have HLE7 := Lib.hid (fun m => (H6.out.tl.below (below_drewN (Below.refl w6.heap.size w6) m)).len)
          simp only [hK2] at HLE7
          have hfw := HFW.out
          have hnl := HNL.out
          have d8 : ((K2 : Int) != (K2 : Int)) = false := by simp
          have d9 : ¬ (2 * (K2 : Int)) < N2 := by omega
          clear hK2 hN2 hnl HNL HFW
          go_wp2_with fail
          refine HLE.out.mono ?_
          rintro e w7 ⟨rfl, rfl⟩
          go_wp2_with fail
          refine HNOD.out.mono ?_
          rintro e w8 ⟨rfl, m8, rfl⟩
          go_wp2_with fail
          refine (HLE7.out m8).mono ?_
          rintro e w9 ⟨rfl, rfl⟩
          have H8 := Lib.hid (H6.out.below (below_drewN (Below.refl w6.heap.size w6) m8))
          clear HLE HNOD HLE7 H6 hln6 hlk6 HGET
          go_wp2_with fail
          clear d8 d9 hfw
          generalize w6.drewN m8 = w8 at *
          go_loopw [109] (fun i wr => ∃ (j : Nat), j ≤ p ∧ i = .int .i64 j ∧ Hid (ScrT w a h wr t2 bs2)) (fun i _ => p - (intOf i).toNat)
          case atStart => exact ⟨0, Nat.zero_le _, rfl, H8⟩
          case round =>
            obtain ⟨j, hj, rfl, HR⟩ := hrel
            clear H8
            by_cases hjp : j < p
            · have hjp' : (j : Int) < p := by omega
              have hj0 : ¬ (j : Int) < 0 := by omega
              obtain ⟨gb, goff, u, hAe, hgb, hu, hcu⟩ := HSL.out.at_ (k := j) (by omega)
              subst hAe
              have hjz : j < zs.length := by rw [HL2.out]; omega
              rw [List.getElem?_map, List.getElem?_eq_getElem hjz] at hu
              have hz2 := HZW.out _ (List.getElem_mem hjz)
              obtain ⟨y, hy, hy2⟩ := u16_nat hz2
              rw [hy] at hu
              obtain rfl : Value.int .u16 (y : Int) = u := Option.some.inj hu
              have hbr : Below w.heap.size w wr := HR.out.tl.bel
              have cu := (hbr.cell (p := ⟨gb, goff + j, none⟩) hgb).trans hcu
              have hgr : gb < wr.heap.size := Nat.lt_of_lt_of_le hgb hbr.size
              have HK13 := Lib.hid (fun w => key16_any y 13 hy2 (by decide) w)
              have HM13 : Hid (mayL (keyL y 13) = true) := Lib.hid (keyL_may y 13)
              have HL13 : Hid ((keyL y 13).length ≤ 9223372036854775807) := Lib.hid (by have := keyL_len y 13; omega)
              have HTL := Lib.hid (HR.out.tl.longest (keyL y 13) HL13.out)
              have HMLG := Lib.hid (fun w' (hb : Below wr.heap.size wr w') => longest16_any h _ t2 w' (keyL y 13) (HR.out.mm.below hb) HR.out.tl.ok HR.out.tl.fit HM13.out)
              obtain ⟨o, ho⟩ : ∃ o, (if mayL (keyL y 13) then longR t2 (keyL y 13) none else none) = o := ⟨_, rfl⟩
              rw [ho] at HTL HMLG
              generalize keyL y 13 = K13 at *
              clear hu hz2 hy hbr hcu hjz ho
              cases o with
              | none =>
                simp only [longV] at HTL HMLG
                go_wp2_with fail
                refine (HK13.out _).mono ?_
                rintro e v3 ⟨rfl, rfl⟩
                go_wp2_with fail
                refine HTL.out.mono ?_
                rintro e v4 ⟨rfl, hb4⟩
                have H4 := Lib.hid (HR.out.below hb4)
                have HX4 := Lib.hid (HMLG.out v4 hb4)
                clear hb4 HTL HMLG
                go_wp2_with fail
                refine (HK13.out _).mono ?_
                rintro e v5 ⟨rfl, rfl⟩
                go_wp2_with fail
                refine HX4.out.mono ?_
                rintro e v6 ⟨rfl, rfl⟩
                clear HX4
                go_wp2_with fail
                go_roundw
                case rel => exact ⟨j + 1, by omega, by go_num, H4⟩
                case measure => simp [intOf]; omega
              | some nv =>
                obtain ⟨N1, x1⟩ := nv
                simp only [longV] at HTL HMLG
                have d8 : ((N1 : Int) != (N1 : Int)) = false := by simp
                have d9 : ((x1 : Int) != (x1 : Int)) = false := by simp
                go_wp2_with fail
                refine (HK13.out _).mono ?_
                rintro e v3 ⟨rfl, rfl⟩
                go_wp2_with fail
                refine HTL.out.mono ?_
                rintro e v4 ⟨rfl, hb4⟩
                have H4 := Lib.hid (HR.out.below hb4)
                have HX4 := Lib.hid (HMLG.out v4 hb4)
                clear hb4 HTL HMLG
                go_wp2_with fail
                refine (HK13.out _).mono ?_
                rintro e v5 ⟨rfl, rfl⟩
                go_wp2_with fail
                refine HX4.out.mono ?_
                rintro e v6 ⟨rfl, rfl⟩
                clear HX4
                go_wp2_with fail
                go_roundw
                case rel => exact ⟨j + 1, by omega, by go_num, H4⟩
                case measure => simp [intOf]; omega
            · obtain rfl : j = p := by omega
              have hjp' : ¬ (j : Int) < j := by omega
              have HEND : Hid (∃ t bs, ScrT w a h wr t bs) := Lib.hid ⟨t2, bs2, HR.out⟩
              clear HR
              go_wp2_with fail
              go_roundw
              case rel => exact ⟨k + 1, by omega, by go_num, HEND⟩
              case measure => simp [intOf]; omega
        | some v0 =>
          simp only [Option.map_some, Option.map_none, Option.getD_some, Option.getD_none, Option.isSome_some, Option.isSome_none, Option.isNone_some, Option.isNone_none] at hlk HDEL
          go_wp2_with fail
          generalize (wr.alloc (.cells #[.int .u8 p0, .int .u16 p1, .int .u8 p2, .int .i64 p3] 32)) = wx at *
          obtain ⟨bx, hbx⟩ : ∃ bx, wr.heap.size = bx := ⟨_, rfl⟩
          rw [hbx] at HCA HAP ⊢
          clear hbx e0 e1 e2 e3 hgr
          refine (HKEY.out _).mono ?_
          rintro e w3 ⟨rfl, rfl⟩
          have c0 := HCA.out.get 0 _
          have cl := HCA.out.lt
          go_wp2_with fail
          refine HDEL.out.mono ?_
          rintro e w4 ⟨rfl, hdel⟩
          obtain ⟨t2, bs2, hM, hget, hlen, ho⟩ := HT.out.del hdel
          have HM := Lib.hid hM
          have HGET : Hid (getR t2 KL = none) := Lib.hid (by rw [hget, if_pos rfl])
          have HMAP := Lib.hid (mOf_del hget)
          have HLEN : Hid (decN ((getR t KL).map (Value.int .i64)).isSome t.keys.length = t2.keys.length) := Lib.hid (by rw [hlen, Option.isSome_map]; rfl)
          clear hM hget hlen ho hdel HDEL HT hlk c0 cl HCA HAP hr d5 hr2
          go_wp2_with (refine wpList_delete_mmN _ rfl _ _ _ _ rfl 3 Tryd.underlying29 Tryd.underlying9 key_str str_inj rfl HM.out.mm (sb KL) rfl ?_)
          intro w5 n5 hn5 hm5 hg5
          have H5 : Hid (ScrT w a h w5 t2 bs2) := Lib.hid (HM.out.map hm5 HMAP.out (by rw [hn5.out, mOf_sb]; exact HLEN.out) hg5)
          clear hn5 hm5 hg5 HM HMAP HLEN
          have HG := Lib.hid (H5.out.tl.get KL HKLL.out)
          rw [HGET.out] at HG
          simp only [Option.getD_some, Option.getD_none, Option.isSome_some, Option.isSome_none] at HG
          go_wp2_with fail
          refine HG.out.mono ?_
          rintro e w6 ⟨rfl, hb6⟩
          have H6 := Lib.hid (H5.out.below hb6)
          clear hb6 HG H5
          have hlk6 := look16 H6.out.mm KL
          rw [HGET.out] at hlk6
          simp only [Option.map_some, Option.map_none, Option.getD_some, Option.getD_none, Option.isSome_some, Option.isSome_none] at hlk6
          have hln6 := fun ty => H6.out.mm.len (P := Tryd.prog) Tryd.underlying29 ty
          have HLE := Lib.hid H6.out.tl.len
          have HNOD := Lib.hid (H6.out.tl.nodesAny H6.out.few)
          have HFW := Lib.hid H6.out.few
          have HNL := Lib.hid (nodes_le H6.out.tl.ok).1
          obtain ⟨K2, hK2⟩ : ∃ K2, t2.keys.length = K2 := ⟨_, rfl⟩
          obtain ⟨N2, hN2⟩ : ∃ N2, t2.nodes = N2 := ⟨_, rfl⟩
          simp only [hK2] at hln6
          rw [hK2] at HLE HNL HFW
          rw [hN2] at HNOD HNL
          have HLE7 := Lib.hid (fun m => (H6.out.tl.below (below_drewN (Below.refl w6.heap.size w6) m)).len)
          simp only [hK2] at HLE7
          have hfw := HFW.out
          have hnl := HNL.out
          have d8 : ((K2 : Int) != (K2 : Int)) = false := by simp
          have d9 : ¬ (2 * (K2 : Int)) < N2 := by omega
          clear hK2 hN2 hnl HNL HFW
          go_wp2_with fail
          refine HLE.out.mono ?_
          rintro e w7 ⟨rfl, rfl⟩
          go_wp2_with fail
          refine HNOD.out.mono ?_
          rintro e w8 ⟨rfl, m8, rfl⟩
          go_wp2_with fail
          refine (HLE7.out m8).mono ?_
          rintro e w9 ⟨rfl, rfl⟩
          have H8 := Lib.hid (H6.out.below (below_drewN (Below.refl w6.heap.size w6) m8))
          clear HLE HNOD HLE7 H6 hln6 hlk6 HGET
          go_wp2_with fail
          clear d8 d9 hfw
          generalize w6.drewN m8 = w8 at *
          go_loopw [109] (fun i wr => ∃ (j : Nat), j ≤ p ∧ i = .int .i64 j ∧ Hid (ScrT w a h wr t2 bs2)) (fun i _ => p - (intOf i).toNat)
          case atStart => exact ⟨0, Nat.zero_le _, rfl, H8⟩
          case round =>
            obtain ⟨j, hj, rfl, HR⟩ := hrel
            clear H8
            by_cases hjp : j < p
            · have hjp' : (j : Int) < p := by omega
              have hj0 : ¬ (j : Int) < 0 := by omega
              obtain ⟨gb, goff, u, hAe, hgb, hu, hcu⟩ := HSL.out.at_ (k := j) (by omega)
              subst hAe
              have hjz : j < zs.length := by rw [HL2.out]; omega
              rw [List.getElem?_map, List.getElem?_eq_getElem hjz] at hu
              have hz2 := HZW.out _ (List.getElem_mem hjz)
              obtain ⟨y, hy, hy2⟩ := u16_nat hz2
              rw [hy] at hu
              obtain rfl : Value.int .u16 (y : Int) = u := Option.some.inj hu
              have hbr : Below w.heap.size w wr := HR.out.tl.bel
              have cu := (hbr.cell (p := ⟨gb, goff + j, none⟩) hgb).trans hcu
              have hgr : gb < wr.heap.size := Nat.lt_of_lt_of_le hgb hbr.size
              have HK13 := Lib.hid (fun w => key16_any y 13 hy2 (by decide) w)
              have HM13 : Hid (mayL (keyL y 13) = true) := Lib.hid (keyL_may y 13)
              have HL13 : Hid ((keyL y 13).length ≤ 9223372036854775807) := Lib.hid (by have := keyL_len y 13; omega)
              have HTL := Lib.hid (HR.out.tl.longest (keyL y 13) HL13.out)
              have HMLG := Lib.hid (fun w' (hb : Below wr.heap.size wr w') => longest16_any h _ t2 w' (keyL y 13) (HR.out.mm.below hb) HR.out.tl.ok HR.out.tl.fit HM13.out)
              obtain ⟨o, ho⟩ : ∃ o, (if mayL (keyL y 13) then longR t2 (keyL y 13) none else none) = o := ⟨_, rfl⟩
              rw [ho] at HTL HMLG
              generalize keyL y 13 = K13 at *
              clear hu hz2 hy hbr hcu hjz ho
              cases o with
              | none =>
                simp only [longV] at HTL HMLG
                go_wp2_with fail
                refine (HK13.out _).mono ?_
                rintro e v3 ⟨rfl, rfl⟩
                go_wp2_with fail
                refine HTL.out.mono ?_
                rintro e v4 ⟨rfl, hb4⟩
                have H4 := Lib.hid (HR.out.below hb4)
                have HX4 := Lib.hid (HMLG.out v4 hb4)
                clear hb4 HTL HMLG
                go_wp2_with fail
                refine (HK13.out _).mono ?_
                rintro e v5 ⟨rfl, rfl⟩
                go_wp2_with fail
                refine HX4.out.mono ?_
                rintro e v6 ⟨rfl, rfl⟩
                clear HX4
                go_wp2_with fail
                go_roundw
                case rel => exact ⟨j + 1, by omega, by go_num, H4⟩
                case measure => simp [intOf]; omega
              | some nv =>
                obtain ⟨N1, x1⟩ := nv
                simp only [longV] at HTL HMLG
                have d8 : ((N1 : Int) != (N1 : Int)) = false := by simp
                have d9 : ((x1 : Int) != (x1 : Int)) = false := by simp
                go_wp2_with fail
                refine (HK13.out _).mono ?_
                rintro e v3 ⟨rfl, rfl⟩
                go_wp2_with fail
                refine HTL.out.mono ?_
                rintro e v4 ⟨rfl, hb4⟩
                have H4 := Lib.hid (HR.out.below hb4)
                have HX4 := Lib.hid (HMLG.out v4 hb4)
                clear hb4 HTL HMLG
                go_wp2_with fail
                refine (HK13.out _).mono ?_
                rintro e v5 ⟨rfl, rfl⟩
                go_wp2_with fail
                refine HX4.out.mono ?_
                rintro e v6 ⟨rfl, rfl⟩
                clear HX4
                go_wp2_with fail
                go_roundw
                case rel => exact ⟨j + 1, by omega, by go_num, H4⟩
                case measure => simp [intOf]; omega
            · obtain rfl : j = p := by omega
              have hjp' : ¬ (j : Int) < j := by omega
              have HEND : Hid (∃ t bs, ScrT w a h wr t bs) := Lib.hid ⟨t2, bs2, HR.out⟩
              clear HR
              go_wp2_with fail
              go_roundw
              case rel => exact ⟨k + 1, by omega, by go_num, HEND⟩
              case measure => simp [intOf]; omega
      · have d5 : ((r : Int) == 2) = false := by simp; omega
        have HPUT := Lib.hid (HT.out.tl.putAny KL p3 HML.out HFEW.out)
        rw [HMK.out] at HPUT
        cases mk with
        | none =>
          simp only [Option.map_some, Option.map_none, Option.getD_some, Option.getD_none, Option.isSome_some, Option.isSome_none, Option.isNone_some, Option.isNone_none] at hlk HPUT
          go_wp2_with fail
          generalize (wr.alloc (.cells #[.int .u8 p0, .int .u16 p1, .int .u8 p2, .int .i64 p3] 32)) = wx at *
          obtain ⟨bx, hbx⟩ : ∃ bx, wr.heap.size = bx := ⟨_, rfl⟩
          rw [hbx] at HCA HAP ⊢
          clear hbx e0 e1 e2 e3 hgr
          refine (HKEY.out _).mono ?_
          rintro e w3 ⟨rfl, rfl⟩
          have c0 := HCA.out.get 0 _
          have cl := HCA.out.lt
          have c3 := HCA.out.get 3 _
          go_wp2_with fail
          refine HPUT.out.mono ?_
          rintro e w4 ⟨rfl, hput⟩
          obtain ⟨t2, bs2, hM, hget, hlen, ho⟩ := HT.out.put HIK.out hput
          have HC4 := Lib.hid (ho.cs HCA.out HAP.out.1)
          have HM := Lib.hid hM
          have HGET : Hid (getR t2 KL = some p3) := Lib.hid (by rw [hget, if_pos rfl])
          have HMAP := Lib.hid (mOf_put hget)
          have HLEN : Hid (incN ((getR t KL).map (Value.int .i64)).isSome t.keys.length = t2.keys.length) := Lib.hid (by rw [hlen, Option.isSome_map]; rfl)
          clear hM hget hlen ho hput HPUT HT hlk c0 cl c3 HCA HAP hr d5 hr2
          have c3 := HC4.out.get 3 _
          have cl := HC4.out.lt
          go_wp2_with (at_mapUpdate; refine wpList_update_mmN _ rfl _ _ _ _ rfl 9 3 Tryd.underlying29 Tryd.underlying9 key_str str_inj rfl HM.out.mm (sb KL) (.int .i64 p3) rfl rfl ?_)
          intro w5 n5 hn5 hm5 hg5
          have H5 : Hid (ScrT w a h w5 t2 bs2) := Lib.hid (HM.out.map hm5 HMAP.out (by rw [hn5.out, mOf_sb]; exact HLEN.out) hg5)
          clear hn5 hm5 hg5 HM HMAP HLEN c3 cl HC4
          have HG := Lib.hid (H5.out.tl.get KL HKLL.out)
          rw [HGET.out] at HG
          simp only [Option.getD_some, Option.getD_none, Option.isSome_some, Option.isSome_none] at HG
          go_wp2_with fail
          refine HG.out.mono ?_
          rintro e w6 ⟨rfl, hb6⟩
          have H6 := Lib.hid (H5.out.below hb6)
          clear hb6 HG H5
          have hlk6 := look16 H6.out.mm KL
          rw [HGET.out] at hlk6
          simp only [Option.map_some, Option.map_none, Option.getD_some, Option.getD_none, Option.isSome_some, Option.isSome_none] at hlk6
          have hln6 := fun ty => H6.out.mm.len (P := Tryd.prog) Tryd.underlying29 ty
          have HLE := Lib.hid H6.out.tl.len
          have HNOD := Lib.hid (H6.out.tl.nodesAny H6.out.few)
          have HFW := Lib.hid H6.out.few
          have HNL := Lib.hid (nodes_le H6.out.tl.ok).1
          obtain ⟨K2, hK2⟩ : ∃ K2, t2.keys.length = K2 := ⟨_, rfl⟩
          obtain ⟨N2, hN2⟩ : ∃ N2, t2.nodes = N2 := ⟨_, rfl⟩
          simp only [hK2] at hln6
          rw [hK2] at HLE HNL HFW
          rw [hN2] at HNOD HNL
          have HLE7 := Lib.hid (fun m => (H6.out.tl.below (below_drewN (Below.refl w6.heap.size w6) m)).len)
          simp only [hK2] at HLE7
          have hfw := HFW.out
          have hnl := HNL.out
          have d8 : ((K2 : Int) != (K2 : Int)) = false := by simp
          have d9 : ¬ (2 * (K2 : Int)) < N2 := by omega
          clear hK2 hN2 hnl HNL HFW
          go_wp2_with fail
          refine HLE.out.mono ?_
          rintro e w7 ⟨rfl, rfl⟩
          go_wp2_with fail
          refine HNOD.out.mono ?_
          rintro e w8 ⟨rfl, m8, rfl⟩
          go_wp2_with fail
          refine (HLE7.out m8).mono ?_
          rintro e w9 ⟨rfl, rfl⟩
          have H8 := Lib.hid (H6.out.below (below_drewN (Below.refl w6.heap.size w6) m8))
          clear HLE HNOD HLE7 H6 hln6 hlk6 HGET
          go_wp2_with fail
          clear d8 d9 hfw
          generalize w6.drewN m8 = w8 at *
          go_loopw [109] (fun i wr => ∃ (j : Nat), j ≤ p ∧ i = .int .i64 j ∧ Hid (ScrT w a h wr t2 bs2)) (fun i _ => p - (intOf i).toNat)
          case atStart => exact ⟨0, Nat.zero_le _, rfl, H8⟩
          case round =>
            obtain ⟨j, hj, rfl, HR⟩ := hrel
            clear H8
            by_cases hjp : j < p
            · have hjp' : (j : Int) < p := by omega
              have hj0 : ¬ (j : Int) < 0 := by omega
              obtain ⟨gb, goff, u, hAe, hgb, hu, hcu⟩ := HSL.out.at_ (k := j) (by omega)
              subst hAe
              have hjz : j < zs.length := by rw [HL2.out]; omega
              rw [List.getElem?_map, List.getElem?_eq_getElem hjz] at hu
              have hz2 := HZW.out _ (List.getElem_mem hjz)
              obtain ⟨y, hy, hy2⟩ := u16_nat hz2
              rw [hy] at hu
              obtain rfl : Value.int .u16 (y : Int) = u := Option.some.inj hu
              have hbr : Below w.heap.size w wr := HR.out.tl.bel
              have cu := (hbr.cell (p := ⟨gb, goff + j, none⟩) hgb).trans hcu
              have hgr : gb < wr.heap.size := Nat.lt_of_lt_of_le hgb hbr.size
              have HK13 := Lib.hid (fun w => key16_any y 13 hy2 (by decide) w)
              have HM13 : Hid (mayL (keyL y 13) = true) := Lib.hid (keyL_may y 13)
              have HL13 : Hid ((keyL y 13).length ≤ 9223372036854775807) := Lib.hid (by have := keyL_len y 13; omega)
              have HTL := Lib.hid (HR.out.tl.longest (keyL y 13) HL13.out)
              have HMLG := Lib.hid (fun w' (hb : Below wr.heap.size wr w') => longest16_any h _ t2 w' (keyL y 13) (HR.out.mm.below hb) HR.out.tl.ok HR.out.tl.fit HM13.out)
              obtain ⟨o, ho⟩ : ∃ o, (if mayL (keyL y 13) then longR t2 (keyL y 13) none else none) = o := ⟨_, rfl⟩
              rw [ho] at HTL HMLG
              generalize keyL y 13 = K13 at *
              clear hu hz2 hy hbr hcu hjz ho
              cases o with
              | none =>
                simp only [longV] at HTL HMLG
                go_wp2_with fail
                refine (HK13.out _).mono ?_
                rintro e v3 ⟨rfl, rfl⟩
                go_wp2_with fail
                refine HTL.out.mono ?_
                rintro e v4 ⟨rfl, hb4⟩
                have H4 := Lib.hid (HR.out.below hb4)
                have HX4 := Lib.hid (HMLG.out v4 hb4)
                clear hb4 HTL HMLG
                go_wp2_with fail
                refine (HK13.out _).mono ?_
                rintro e v5 ⟨rfl, rfl⟩
                go_wp2_with fail
                refine HX4.out.mono ?_
                rintro e v6 ⟨rfl, rfl⟩
                clear HX4
                go_wp2_with fail
                go_roundw
                case rel => exact ⟨j + 1, by omega, by go_num, H4⟩
                case measure => simp [intOf]; omega
              | some nv =>
                obtain ⟨N1, x1⟩ := nv
                simp only [longV] at HTL HMLG
                have d8 : ((N1 : Int) != (N1 : Int)) = false := by simp
                have d9 : ((x1 : Int) != (x1 : Int)) = false := by simp
                go_wp2_with fail
                refine (HK13.out _).mono ?_
                rintro e v3 ⟨rfl, rfl⟩
                go_wp2_with fail
                refine HTL.out.mono ?_
                rintro e v4 ⟨rfl, hb4⟩
                have H4 := Lib.hid (HR.out.below hb4)
                have HX4 := Lib.hid (HMLG.out v4 hb4)
                clear hb4 HTL HMLG
                go_wp2_with fail
                refine (HK13.out _).mono ?_
                rintro e v5 ⟨rfl, rfl⟩
                go_wp2_with fail
                refine HX4.out.mono ?_
                rintro e v6 ⟨rfl, rfl⟩
                clear HX4
                go_wp2_with fail
                go_roundw
                case rel => exact ⟨j + 1, by omega, by go_num, H4⟩
                case measure => simp [intOf]; omega
            · obtain rfl : j = p := by omega
              have hjp' : ¬ (j : Int) < j := by omega
              have HEND : Hid (∃ t bs, ScrT w a h wr t bs) := Lib.hid ⟨t2, bs2, HR.out⟩
              clear HR
              go_wp2_with fail
              go_roundw
              case rel => exact ⟨k + 1, by omega, by go_num, HEND⟩
              case measure => simp [intOf]; omega
        | some v0 =>
          simp only [Option.map_some, Option.map_none, Option.getD_some, Option.getD_none, Option.isSome_some, Option.isSome_none, Option.isNone_some, Option.isNone_none] at hlk HPUT
          go_wp2_with fail
          generalize (wr.alloc (.cells #[.int .u8 p0, .int .u16 p1, .int .u8 p2, .int .i64 p3] 32)) = wx at *
          obtain ⟨bx, hbx⟩ : ∃ bx, wr.heap.size = bx := ⟨_, rfl⟩
          rw [hbx] at HCA HAP ⊢
          clear hbx e0 e1 e2 e3 hgr
          refine (HKEY.out _).mono ?_
          rintro e w3 ⟨rfl, rfl⟩
          have c0 := HCA.out.get 0 _
          have cl := HCA.out.lt
          have c3 := HCA.out.get 3 _
          go_wp2_with fail
          refine HPUT.out.mono ?_
          rintro e w4 ⟨rfl, hput⟩
          obtain ⟨t2, bs2, hM, hget, hlen, ho⟩ := HT.out.put HIK.out hput
          have HC4 := Lib.hid (ho.cs HCA.out HAP.out.1)
          have HM := Lib.hid hM
          have HGET : Hid (getR t2 KL = some p3) := Lib.hid (by rw [hget, if_pos rfl])
          have HMAP := Lib.hid (mOf_put hget)
          have HLEN : Hid (incN ((getR t KL).map (Value.int .i64)).isSome t.keys.length = t2.keys.length) := Lib.hid (by rw [hlen, Option.isSome_map]; rfl)
          clear hM hget hlen ho hput HPUT HT hlk c0 cl c3 HCA HAP hr d5 hr2
          have c3 := HC4.out.get 3 _
          have cl := HC4.out.lt
          go_wp2_with (at_mapUpdate; refine wpList_update_mmN _ rfl _ _ _ _ rfl 9 3 Tryd.underlying29 Tryd.underlying9 key_str str_inj rfl HM.out.mm (sb KL) (.int .i64 p3) rfl rfl ?_)
          intro w5 n5 hn5 hm5 hg5
          have H5 : Hid (ScrT w a h w5 t2 bs2) := Lib.hid (HM.out.map hm5 HMAP.out (by rw [hn5.out, mOf_sb]; exact HLEN.out) hg5)
          clear hn5 hm5 hg5 HM HMAP HLEN c3 cl HC4
          have HG := Lib.hid (H5.out.tl.get KL HKLL.out)
          rw [HGET.out] at HG
          simp only [Option.getD_some, Option.getD_none, Option.isSome_some, Option.isSome_none] at HG
          go_wp2_with fail
          refine HG.out.mono ?_
          rintro e w6 ⟨rfl, hb6⟩
          have H6 := Lib.hid (H5.out.below hb6)
          clear hb6 HG H5
          have hlk6 := look16 H6.out.mm KL
          rw [HGET.out] at hlk6
          simp only [Option.map_some, Option.map_none, Option.getD_some, Option.getD_none, Option.isSome_some, Option.isSome_none] at hlk6
          have hln6 := fun ty => H6.out.mm.len (P := Tryd.prog) Tryd.underlying29 ty
          have HLE := Lib.hid H6.out.tl.len
          have HNOD := Lib.hid (H6.out.tl.nodesAny H6.out.few)
          have HFW := Lib.hid H6.out.few
          have HNL := Lib.hid (nodes_le H6.out.tl.ok).1
          obtain ⟨K2, hK2⟩ : ∃ K2, t2.keys.length = K2 := ⟨_, rfl⟩
          obtain ⟨N2, hN2⟩ : ∃ N2, t2.nodes = N2 := ⟨_, rfl⟩
          simp only [hK2] at hln6
          rw [hK2] at HLE HNL HFW
          rw [hN2] at HNOD HNL
          have HLE7 := Lib.hid (fun m => (H6.out.tl.below (below_drewN (Below.refl w6.heap.size w6) m)).len)
          simp only [hK2] at HLE7
          have hfw := HFW.out
          have hnl := HNL.out
          have d8 : ((K2 : Int) != (K2 : Int)) = false := by simp
          have d9 : ¬ (2 * (K2 : Int)) < N2 := by omega
          clear hK2 hN2 hnl HNL HFW
          go_wp2_with fail
          refine HLE.out.mono ?_
          rintro e w7 ⟨rfl, rfl⟩
          go_wp2_with fail
          refine HNOD.out.mono ?_
          rintro e w8 ⟨rfl, m8, rfl⟩
          go_wp2_with fail
          refine (HLE7.out m8).mono ?_
          rintro e w9 ⟨rfl, rfl⟩
          have H8 := Lib.hid (H6.out.below (below_drewN (Below.refl w6.heap.size w6) m8))
          clear HLE HNOD HLE7 H6 hln6 hlk6 HGET
          go_wp2_with fail
          clear d8 d9 hfw
          generalize w6.drewN m8 = w8 at *
          go_loopw [109] (fun i wr => ∃ (j : Nat), j ≤ p ∧ i = .int .i64 j ∧ Hid (ScrT w a h wr t2 bs2)) (fun i _ => p - (intOf i).toNat)
          case atStart => exact ⟨0, Nat.zero_le _, rfl, H8⟩
          case round =>
            obtain ⟨j, hj, rfl, HR⟩ := hrel
            clear H8
            by_cases hjp : j < p
            · have hjp' : (j : Int) < p := by omega
              have hj0 : ¬ (j : Int) < 0 := by omega
              obtain ⟨gb, goff, u, hAe, hgb, hu, hcu⟩ := HSL.out.at_ (k := j) (by omega)
              subst hAe
              have hjz : j < zs.length := by rw [HL2.out]; omega
              rw [List.getElem?_map, List.getElem?_eq_getElem hjz] at hu
              have hz2 := HZW.out _ (List.getElem_mem hjz)
              obtain ⟨y, hy, hy2⟩ := u16_nat hz2
              rw [hy] at hu
              obtain rfl : Value.int .u16 (y : Int) = u := Option.some.inj hu
              have hbr : Below w.heap.size w wr := HR.out.tl.bel
              have cu := (hbr.cell (p := ⟨gb, goff + j, none⟩) hgb).trans hcu
              have hgr : gb < wr.heap.size := Nat.lt_of_lt_of_le hgb hbr.size
              have HK13 := Lib.hid (fun w => key16_any y 13 hy2 (by decide) w)
              have HM13 : Hid (mayL (keyL y 13) = true) := Lib.hid (keyL_may y 13)
              have HL13 : Hid ((keyL y 13).length ≤ 9223372036854775807) := Lib.hid (by have := keyL_len y 13; omega)
              have HTL := Lib.hid (HR.out.tl.longest (keyL y 13) HL13.out)
              have HMLG := Lib.hid (fun w' (hb : Below wr.heap.size wr w') => longest16_any h _ t2 w' (keyL y 13) (HR.out.mm.below hb) HR.out.tl.ok HR.out.tl.fit HM13.out)
              obtain ⟨o, ho⟩ : ∃ o, (if mayL (keyL y 13) then longR t2 (keyL y 13) none else none) = o := ⟨_, rfl⟩
              rw [ho] at HTL HMLG
              generalize keyL y 13 = K13 at *
              clear hu hz2 hy hbr hcu hjz ho
              cases o with
              | none =>
                simp only [longV] at HTL HMLG
                go_wp2_with fail
                refine (HK13.out _).mono ?_
                rintro e v3 ⟨rfl, rfl⟩
                go_wp2_with fail
                refine HTL.out.mono ?_
                rintro e v4 ⟨rfl, hb4⟩
                have H4 := Lib.hid (HR.out.below hb4)
                have HX4 := Lib.hid (HMLG.out v4 hb4)
                clear hb4 HTL HMLG
                go_wp2_with fail
                refine (HK13.out _).mono ?_
                rintro e v5 ⟨rfl, rfl⟩
                go_wp2_with fail
                refine HX4.out.mono ?_
                rintro e v6 ⟨rfl, rfl⟩
                clear HX4
                go_wp2_with fail
                go_roundw
                case rel => exact ⟨j + 1, by omega, by go_num, H4⟩
                case measure => simp [intOf]; omega
              | some nv =>
                obtain ⟨N1, x1⟩ := nv
                simp only [longV] at HTL HMLG
                have d8 : ((N1 : Int) != (N1 : Int)) = false := by simp
                have d9 : ((x1 : Int) != (x1 : Int)) = false := by simp
                go_wp2_with fail
                refine (HK13.out _).mono ?_
                rintro e v3 ⟨rfl, rfl⟩
                go_wp2_with fail
                refine HTL.out.mono ?_
                rintro e v4 ⟨rfl, hb4⟩
                have H4 := Lib.hid (HR.out.below hb4)
                have HX4 := Lib.hid (HMLG.out v4 hb4)
                clear hb4 HTL HMLG
                go_wp2_with fail
                refine (HK13.out _).mono ?_
                rintro e v5 ⟨rfl, rfl⟩
                go_wp2_with fail
                refine HX4.out.mono ?_
                rintro e v6 ⟨rfl, rfl⟩
                clear HX4
                go_wp2_with fail
                go_roundw
                case rel => exact ⟨j + 1, by omega, by go_num, H4⟩
                case measure => simp [intOf]; omega
            · obtain rfl : j = p := by omega
              have hjp' : ¬ (j : Int) < j := by omega
              have HEND : Hid (∃ t bs, ScrT w a h wr t bs) := Lib.hid ⟨t2, bs2, HR.out⟩
              clear HR
              go_wp2_with fail
              go_roundw
              case rel => exact ⟨k + 1, by omega, by go_num, HEND⟩
              case measure => simp [intOf]; omega
    · obtain rfl : k = n := by omega
      have hkn' : ¬ (k : Int) < k := by omega
      obtain ⟨t, bs, hT⟩ := HR.out
      have HB : Hid (Below w.heap.size w wr) := Lib.hid hT.tl.bel
      clear HR hT hkn
      go_wp2_with fail
      go_ret
      exact ⟨rfl, HB.out⟩
end Go.Proofs.YtgfoahednmipkaaDoor
