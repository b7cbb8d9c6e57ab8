/- The walk of TrieGone. -/
import Derived.Test.YtgfoahednmipkaaDoorTrN
namespace Go.Proofs.YtgfoahednmipkaaDoor
open Go.RowKit
set_option linter.unusedVariables false
set_option maxRecDepth 20000
attribute [local simp] putsF isV wordOf Deps Region.binds Region.wanted Act.put wantedX isB
/-- All words of the trie are those of some deeds. -/
def GoneS (w : World) (a : Nat) (z : List Ints4T) (lo hi : Nat) (wr : World) : Prop := ∃ t bs, TrL w w.heap.size a bs t wr ∧ ∀ q, (getR t q).isSome = true → ∃ i, lo ≤ i ∧ i < hi ∧ q = keyZ z i
theorem GoneS.few {w wr : World} {a lo hi : Nat} {z : List Ints4T} {t : Tr} {bs : List Nat} (h : TrL w w.heap.size a bs t wr) (hq : ∀ q, (getR t q).isSome = true → ∃ i, lo ≤ i ∧ i < hi ∧ q = keyZ z i) (hi' : hi ≤ z.length)
    (hok : ∀ a ∈ z, (Lit.int .u8 a.1).wf = true ∧ (Lit.int .u16 a.2.1).wf = true ∧ (Lit.int .u8 a.2.2.1).wf = true ∧ (Lit.int .i64 a.2.2.2).wf = true) : t.keys.length ≤ 917504 :=
  keys_few h.ok h.fit fun q hs => by
    obtain ⟨i, _, h2, rfl⟩ := hq q hs
    exact keyZ_key (by omega) hok
theorem GoneS.put {w wr wq w' : World} {a k : Nat} {z : List Ints4T} {t : Tr} {bs : List Nat} {x : Int} (hq : ∀ q, (getR t q).isSome = true → ∃ i, 0 ≤ i ∧ i < k ∧ q = keyZ z i) (hp : PutQ w w.heap.size a bs t (keyZ z k) x wq w') : GoneS w a z 0 (k + 1) w' := by
  obtain ⟨t', bs', h1, h2, -, -, -⟩ := hp
  refine ⟨t', bs', h1, fun q hs => ?_⟩
  rw [h2] at hs
  split at hs
  · rename_i e; exact ⟨k, by omega, by omega, e⟩
  · obtain ⟨i, _, h4, h5⟩ := hq q hs
    exact ⟨i, by omega, by omega, h5⟩
theorem GoneS.del {w wr wq w' : World} {a k n : Nat} {z : List Ints4T} {t : Tr} {bs : List Nat} (hq : ∀ q, (getR t q).isSome = true → ∃ i, k ≤ i ∧ i < n ∧ q = keyZ z i) (hp : DelQ w w.heap.size a bs t (keyZ z k) wq w') :
    ∃ t' bs', TrL w w.heap.size a bs' t' w' ∧ getR t' (keyZ z k) = none ∧ ∀ q, (getR t' q).isSome = true → ∃ i, k + 1 ≤ i ∧ i < n ∧ q = keyZ z i := by
  obtain ⟨t', bs', h1, h2, -, -, -⟩ := hp
  refine ⟨t', bs', h1, by rw [h2, if_pos rfl], fun q hs => ?_⟩
  rw [h2] at hs
  split at hs
  · cases hs
  · rename_i e
    obtain ⟨i, h3, h4, h5⟩ := hq q hs
    refine ⟨i, ?_, h4, h5⟩
    rcases Nat.lt_or_ge k i with h | h
    · exact h
    · have : i = k := by omega
      subst this; exact absurd h5 e
theorem gone_end {w wr : World} {a n : Nat} {z : List Ints4T} {t : Tr} {bs : List Nat} (h : TrL w w.heap.size a bs t wr) (hq : ∀ q, (getR t q).isSome = true → ∃ i, n ≤ i ∧ i < n ∧ q = keyZ z i) : t = .nil := by
  cases t with
  | nil => rfl
  | node k v g c =>
    obtain ⟨q, x, hx⟩ := ex_word h.ok (by simp)
    obtain ⟨i, h1, h2, _⟩ := hq q (by rw [(get_spec h.ok h.fit).2 hx]; rfl)
    omega
set_option maxHeartbeats 6400000 in
theorem trieGone_walk (w : World) (A : Option Addr) (n c : Nat) (z : List Ints4T) (hS : Ints4 .u8 .u16 .u8 .i64 w A n c z) :
    Calls Tryd.prog 6 #[.slice A n c] w fun e w' => e = .returned (.bool true) ∧ Below w.heap.size w w' := by
  have hnm : n ≤ 9223372036854775807 := Nat.le_trans hS.le (Nat.le_trans hS.max (by decide))
  have HS := Lib.hid hS
  clear hS
  go_enter Tryd.func6, Tryd.ntmps6
  go_wp2_with fail
  refine (awake16_any _).mono ?_
  rintro e w1 ⟨rfl, hb1⟩
  have HB1 := Lib.hid hb1
  clear hb1
  have h0 : Hid (GoneS w w1.heap.size z 0 0 (w1.alloc (.cells #[.pointer none, .int .i64 0] 28))) := Lib.hid ⟨.nil, [], TrL.start w1 _ w _ HB1.out.size HB1.out, fun q hs => by
    unfold getR at hs; split at hs <;> cases hs⟩
  go_wp2_with fail
  generalize (w1.alloc (.cells #[.pointer none, .int .i64 0] 28)) = w2 at *
  obtain ⟨a, ha⟩ : ∃ a, w1.heap.size = a := ⟨_, rfl⟩
  rw [ha] at h0 ⊢
  clear ha HB1
  go_loopw [16] (fun i wr => ∃ (k : Nat), k ≤ n ∧ i = .int .i64 k ∧ Hid (GoneS w a z 0 k wr)) (fun i _ => n - (intOf i).toNat)
  case atStart => exact ⟨0, Nat.zero_le _, rfl, h0⟩
  case round =>
    obtain ⟨k, hk, rfl, HR⟩ := hrel
    clear h0
    by_cases hkn : k < n
    · have hkn' : (k : Int) < n := by omega
      have hk0 : ¬ (k : Int) < 0 := by omega
      obtain ⟨g0, off, hAe, hg0, hcells⟩ := HS.out.cells (by omega)
      subst hAe
      have hkz : k < z.length := by rw [HS.out.len]; exact hkn
      obtain ⟨o1, o2, o3, o4⟩ := HS.out.ok _ (List.getElem_mem hkz)
      obtain ⟨d0, d1, d2, d3⟩ := hcells k _ (List.getElem?_eq_getElem hkz)
      obtain ⟨⟨p0, p1, p2, p3⟩, hp⟩ : ∃ p, z[k] = p := ⟨_, rfl⟩
      rw [hp] at o1 o2 o3 d0 d1 d2 d3
      simp only at o1 o2 o3 d0 d1 d2 d3
      obtain ⟨p0, rfl, hp0⟩ := u8_nat o1
      obtain ⟨p1, rfl, hp1⟩ := u16_nat o2
      obtain ⟨p2, rfl, hp2⟩ := u8_nat o3
      have HKY : Hid (keyZ z k = keyL p1 p2) := Lib.hid (keyZ_at hkz hp)
      obtain ⟨t, bs, hT, hq⟩ := HR.out
      have hfew := GoneS.few hT hq (by rw [HS.out.len]; omega) HS.out.ok
      have hbr : Below w.heap.size w wr := hT.bel
      have e0 := (hbr.cell (p := ⟨g0, off + k * 4, none⟩) hg0).trans d0
      have e1 := (hbr.cell (p := ⟨g0, off + k * 4 + 1, none⟩) hg0).trans d1
      have e2 := (hbr.cell (p := ⟨g0, off + k * 4 + 2, none⟩) hg0).trans d2
      have e3 := (hbr.cell (p := ⟨g0, off + k * 4 + 3, none⟩) hg0).trans d3
      have hgr : g0 < wr.heap.size := Nat.lt_of_lt_of_le hg0 hbr.size
      have HCA : Hid (Cs (wr.alloc (.cells #[.int .u8 p0, .int .u16 p1, .int .u8 p2, .int .i64 p3] 32)) wr.heap.size [.int .u8 p0, .int .u16 p1, .int .u8 p2, .int .i64 p3]) := Lib.hid (Cs.new wr _ _ _)
      have HT := Lib.hid (hT.below ((Below.refl wr.heap.size wr).alloc (Nat.le_refl _) (.cells #[.int .u8 p0, .int .u16 p1, .int .u8 p2, .int .i64 p3] 32)))
      have HQ := Lib.hid hq
      have HFEW := Lib.hid hfew
      clear hcells hkz o1 o2 o3 o4 d0 d1 d2 d3 hp hbr hT hq hfew HR
      have HPUT := Lib.hid (fun (v : World) (hv : Below (wr.alloc (.cells #[.int .u8 p0, .int .u16 p1, .int .u8 p2, .int .i64 p3] 32)).heap.size (wr.alloc (.cells #[.int .u8 p0, .int .u16 p1, .int .u8 p2, .int .i64 p3] 32)) v) => (HT.out.below hv).putAny (keyL p1 p2) p3 (keyL_may p1 p2) (Nat.le_trans HFEW.out (by decide)))
      go_upto_region 7 with fail
      generalize (wr.alloc (.cells #[.int .u8 p0, .int .u16 p1, .int .u8 p2, .int .i64 p3] 32)) = wx at *
      obtain ⟨h, hh⟩ : ∃ h, wr.heap.size = h := ⟨_, rfl⟩
      rw [hh] at HCA ⊢
      clear e0 e1 e2 e3 hgr hg0 hh
      refine wp_region_store tri_follows (fun x => by simp [putsF, Act.put]; rfl) (fun v => ∃ m, v = wx.drewN m) (fun v => GoneS w a z 0 (k + 1) v) (fun _ _ => True)
        [isV (.pointer (some ⟨a, 0, none⟩)), isV (.pointer (some ⟨h, 1, none⟩)), isV (.int .u16 p1), isV (.pointer (some ⟨h, 2, none⟩)), isV (.int .u8 p2), isV (.string (sb (keyL p1 p2))), isV (.pointer (some ⟨h, 3, none⟩)), isV (.int .i64 p3), fun _ _ => True]
        8 [] (by kernel_rfl) (by kernel_rfl) (by kernel_rfl) rfl (by kernel_rfl) (by kernel_rfl) ?_ (fun _ => trivial) ⟨1, rfl⟩ ?_ ?_ ?_ ?_
      · repeat (first | exact trivial | refine ⟨isV_stayX _ _, ?_⟩ | refine ⟨fun _ _ _ _ _ => trivial, ?_⟩)
      · refine ⟨?_, ?_, ?_, ?_, ?_, ?_, ?_, ?_, skipped rfl, trivial⟩
        all_goals
          intro _ x wq hR hd
          refine ⟨fun _ => ?_, fun hX => by simp at hX⟩
          obtain ⟨m, rfl⟩ := hR
          simp at hd ⊢
          have c1 := (HCA.out.drewN m).get 1 _
          have c2 := (HCA.out.drewN m).get 2 _
          have c3 := (HCA.out.drewN m).get 3 _
          have cl := (HCA.out.drewN m).lt
        · go_simp; exact next_of _ rfl rfl ⟨m, rfl⟩ trivial
        · go_simp; exact next_of _ rfl rfl ⟨m, rfl⟩ trivial
        · go_simp; exact next_of _ rfl rfl ⟨m, rfl⟩ trivial
        · go_simp; exact next_of _ rfl rfl ⟨m, rfl⟩ trivial
        · go_simp; exact next_of _ rfl rfl ⟨m, rfl⟩ trivial
        · obtain ⟨hd1, hd2⟩ := hd
          go_simp
          go_at_call 10
          refine (key16_any p1 p2 hp1 hp2 _).mono ?_
          rintro e w2 ⟨rfl, rfl⟩
          exact next_of _ rfl rfl ⟨m, rfl⟩ trivial
        · go_simp; exact next_of _ rfl rfl ⟨m, rfl⟩ trivial
        · go_simp; exact next_of _ rfl rfl ⟨m, rfl⟩ trivial
      · repeat (first | exact trivial | refine ⟨skipped rfl, ?_⟩)
      · intro x wq hR hx o ho
        obtain ⟨m, rfl⟩ := hR
        simp [AllWordsIf] at hx
        obtain ⟨h0, -, -, -, -, h5, -, h7⟩ := hx
        obtain rfl := Option.some.inj ho
        rw [h0, h5, h7]
        clear h0 h5 h7
        have hpm := HPUT.out (wx.drewN m) (below_drewN (Below.refl _ _) m)
        have HPM := Lib.hid hpm
        clear hpm HPUT
        go_simp
        go_at_call 12
        refine HPM.out.mono ?_
        rintro e w3 ⟨rfl, hput⟩
        exact next_of _ rfl trivial (GoneS.put (wr := wx) HQ.out (by rw [HKY.out]; exact hput)) trivial
      · intro x wq hR hx
        have HR2 := Lib.hid hR
        clear hR hx
        go_wp2_with fail
        go_roundw
        case rel => exact ⟨k + 1, by omega, by go_num, HR2⟩
        case measure => simp [intOf]; omega
    · obtain rfl : k = n := by omega
      have hkn' : ¬ (k : Int) < k := by omega
      have h9 : Hid (GoneS w a z 0 k wr) := HR
      clear HR
      go_wp2_with fail
      go_loopw [32] (fun i wr => ∃ (j : Nat), j ≤ k ∧ i = .int .i64 j ∧ Hid (GoneS w a z j k wr)) (fun i _ => k - (intOf i).toNat)
      case atStart => exact ⟨0, Nat.zero_le _, rfl, h9⟩
      case round =>
        obtain ⟨j, hj, rfl, HR⟩ := hrel
        clear h9
        by_cases hjk : j < k
        · have hkn' : (j : Int) < k := by omega
          have hk0 : ¬ (j : Int) < 0 := by omega
          obtain ⟨g0, off, hAe, hg0, hcells⟩ := HS.out.cells (by omega)
          subst hAe
          have hkz : j < z.length := by rw [HS.out.len]; exact hjk
          obtain ⟨o1, o2, o3, o4⟩ := HS.out.ok _ (List.getElem_mem hkz)
          obtain ⟨d0, d1, d2, d3⟩ := hcells j _ (List.getElem?_eq_getElem hkz)
          obtain ⟨⟨p0, p1, p2, p3⟩, hp⟩ : ∃ p, z[j] = p := ⟨_, rfl⟩
          rw [hp] at o1 o2 o3 d0 d1 d2 d3
          simp only at o1 o2 o3 d0 d1 d2 d3
          obtain ⟨p0, rfl, hp0⟩ := u8_nat o1
          obtain ⟨p1, rfl, hp1⟩ := u16_nat o2
          obtain ⟨p2, rfl, hp2⟩ := u8_nat o3
          have HKY : Hid (keyZ z j = keyL p1 p2) := Lib.hid (keyZ_at hkz hp)
          obtain ⟨t, bs, hT, hq⟩ := HR.out
          have hfew := GoneS.few hT hq (by rw [HS.out.len]; omega) HS.out.ok
          have hbr : Below w.heap.size w wr := hT.bel
          have e0 := (hbr.cell (p := ⟨g0, off + j * 4, none⟩) hg0).trans d0
          have e1 := (hbr.cell (p := ⟨g0, off + j * 4 + 1, none⟩) hg0).trans d1
          have e2 := (hbr.cell (p := ⟨g0, off + j * 4 + 2, none⟩) hg0).trans d2
          have e3 := (hbr.cell (p := ⟨g0, off + j * 4 + 3, none⟩) hg0).trans d3
          have hgr : g0 < wr.heap.size := Nat.lt_of_lt_of_le hg0 hbr.size
          have HAP : wr.heap.size ∉ bs ∧ wr.heap.size ≠ a := ⟨fun e => by have := hT.lts _ e; omega, fun e => by have := hT.lt; omega⟩
          have HCA : Hid (Cs (wr.alloc (.cells #[.int .u8 p0, .int .u16 p1, .int .u8 p2, .int .i64 p3] 32)) wr.heap.size [.int .u8 p0, .int .u16 p1, .int .u8 p2, .int .i64 p3]) := Lib.hid (Cs.new wr _ _ _)
          have HT := Lib.hid (hT.below ((Below.refl wr.heap.size wr).alloc (Nat.le_refl _) (.cells #[.int .u8 p0, .int .u16 p1, .int .u8 p2, .int .i64 p3] 32)))
          have HQ := Lib.hid hq
          have HFEW := Lib.hid hfew
          clear hcells hkz o1 o2 o3 o4 d0 d1 d2 d3 hp hbr hT hq hfew HR
          have HDEL := Lib.hid (HT.out.delAny (keyL p1 p2) (by have := keyL_len p1 p2; omega) (Nat.le_trans HFEW.out (by decide)))
          go_wp2_with fail
          generalize (wr.alloc (.cells #[.int .u8 p0, .int .u16 p1, .int .u8 p2, .int .i64 p3] 32)) = wx at *
          obtain ⟨h, hh⟩ : ∃ h, wr.heap.size = h := ⟨_, rfl⟩
          rw [hh] at HCA ⊢
          have HHB : Hid (h ∉ bs ∧ h ≠ a) := Lib.hid (by rw [← hh]; exact HAP)
          clear e0 e1 e2 e3 hgr hg0 HAP
          refine (key16_any p1 p2 hp1 hp2 _).mono ?_
          rintro e w3 ⟨rfl, rfl⟩
          go_wp2_with fail
          refine HDEL.out.mono ?_
          rintro e w4 ⟨rfl, hdel⟩
          have HC4 := Lib.hid (show Cs w4 h [.int .u8 p0, .int .u16 p1, .int .u8 p2, .int .i64 p3] from by
            obtain ⟨_, _, _, _, _, ho, _⟩ := hdel
            exact ho.cs HCA.out (fun e => by rcases e with e | e; exact HHB.out.2 e; exact HHB.out.1 e))
          obtain ⟨t', bs', h4, h5, h6⟩ := GoneS.del (wr := wx) HQ.out (by rw [HKY.out]; exact hdel)
          rw [HKY.out] at h5
          have hfew := GoneS.few h4 h6 (by rw [HS.out.len]; omega) HS.out.ok
          have HG := Lib.hid (h4.get (keyL p1 p2) (by have := keyL_len p1 p2; omega))
          rw [h5] at HG
          have H4 := Lib.hid h4
          have HQ2 := Lib.hid h6
          have HNL := Lib.hid (nodes_le h4.ok).1
          have HFEW2 := Lib.hid hfew
          clear hdel h4 h5 h6 hfew HDEL HQ HT HCA hh
          have c1 := HC4.out.get 1 _
          have c2 := HC4.out.get 2 _
          have cl := HC4.out.lt
          go_wp2_with fail
          refine (key16_any p1 p2 hp1 hp2 _).mono ?_
          rintro e w5 ⟨rfl, rfl⟩
          go_wp2_with fail
          refine HG.out.mono ?_
          rintro e w6 ⟨rfl, hb6⟩
          have H6 := Lib.hid (H4.out.below hb6)
          have HNOD := Lib.hid ((H4.out.below hb6).nodesAny HFEW2.out)
          clear hb6 c1 c2 cl HC4
          simp only [Option.getD_none, Option.isSome_none]
          go_wp2_with fail
          refine HNOD.out.mono ?_
          rintro e w7 ⟨rfl, m, rfl⟩
          have H7 : Hid (TrL w w.heap.size a bs' t' (w6.drewN m)) := Lib.hid (H6.out.below (below_drewN (Below.refl _ _) m))
          have HLEN := Lib.hid H7.out.len
          go_wp2_with fail
          refine HLEN.out.mono ?_
          rintro e w8 ⟨rfl, rfl⟩
          obtain ⟨N, hN⟩ : ∃ N, t'.nodes = N := ⟨_, rfl⟩
          obtain ⟨KN, hKN⟩ : ∃ K, t'.keys.length = K := ⟨_, rfl⟩
          have hnl := HNL.out
          have hfk := HFEW2.out
          rw [hN, hKN] at hnl
          rw [hKN] at hfk
          rw [hN, hKN]
          have d9 : ¬ (2 * (KN : Int)) < N := by omega
          clear hN hKN hnl HNL HFEW2 HLEN HNOD
          go_wp2_with fail
          go_roundw
          case rel => exact ⟨j + 1, by omega, by go_num, Lib.hid ⟨t', bs', H7.out, HQ2.out⟩⟩
          case measure => simp [intOf]; omega
        · obtain rfl : j = k := by omega
          obtain ⟨t, bs, hT, hq⟩ := HR.out
          have ht : t = .nil := gone_end hT hq
          subst ht
          have HLEN := Lib.hid hT.len
          have HNOD := Lib.hid (hT.nodes (by simp [Tr.keys]))
          have HT := Lib.hid hT
          clear hT hq HR hjk
          go_wp2_with fail
          refine HLEN.out.mono ?_
          rintro e w7 ⟨rfl, rfl⟩
          go_wp2_with fail
          refine HNOD.out.mono ?_
          rintro e w8 ⟨rfl, m, rfl⟩
          go_wp2_with fail
          go_ret
          exact ⟨rfl, below_drewN HT.out.bel m⟩
end Go.Proofs.YtgfoahednmipkaaDoor
