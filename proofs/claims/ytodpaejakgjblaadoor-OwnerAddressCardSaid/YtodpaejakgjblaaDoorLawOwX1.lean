/- The walk of OwnerPrefix, with all that it leans on: number, labels, same of the statements. -/
import Derived.Test.YtodpaejakgjblaaDoorOwnO
import Derived.Test.YtodpaejakgjblaaDoorReg8
import Derived.WalkKit
import Derived.IntWalk
import Derived.Deep.QuietTactic
import Derived.BigQuiet
namespace Go.Proofs.YtodpaejakgjblaaDoor
section
open Go.RowKit
set_option linter.unusedVariables false
set_option maxRecDepth 20000

def hexB : ByteArray := ⟨#[48, 49, 50, 51, 52, 53, 54, 55, 56, 57, 97, 98, 99, 100, 101, 102]⟩
theorem dig_cut' : ∀ n : Fin 16, (hexB.extract n.val (n.val + 1)).data.toList = [dig n.val] := by decide +kernel
theorem dig_cut {n : Nat} (h : n < 16) : baL [dig n] = hexB.extract n (n + 1) := by
  have := dig_cut' ⟨n, h⟩
  simp only [baL]
  rw [← this]
theorem digsF_small {f b n : Nat} (h : n < b) : digsF f b n = [dig n] := by
  cases f with
  | zero => rfl
  | succ f => rw [digsF, if_pos h]
theorem baL_append (x y : List UInt8) : baL (x ++ y) = baL x ++ baL y := by
  unfold baL
  apply ByteArray.ext
  simp [ByteArray.data_append]
theorem div_arith {n b : Nat} (h0 : 2 ≤ b) (hn : n ≤ 1000000) : ∃ q r : Nat, q = n / b ∧ r = n % b ∧ (n : Int).tdiv b = q ∧ (n : Int).tmod b = r ∧ IntKind.i64.wrap (q : Int) = q ∧ IntKind.i64.wrap (r : Int) = r ∧ r < b ∧ q ≤ n := by
  have hr : n % b < b := Nat.mod_lt _ (by omega)
  have hq : n / b ≤ n := Nat.div_le_self _ _
  have hrn : n % b ≤ n := Nat.mod_le _ _
  have e1 : (n : Int).tdiv b = (n / b : Nat) := by rw [Int.tdiv_eq_ediv_of_nonneg (by omega)]; simp
  have e2 : (n : Int).tmod b = (n % b : Nat) := by rw [Int.tmod_eq_emod_of_nonneg (by omega)]; simp
  refine ⟨n / b, n % b, rfl, rfl, e1, e2, ?_, ?_, hr, hq⟩
  · generalize n / b = q at *; exact IntWalk.i64_in _ (by omega)
  · generalize n % b = q at *; exact IntWalk.i64_in _ (by omega)

set_option maxHeartbeats 4000000 in
theorem number_one (b n : Nat) (h : n < b) (hb : b ≤ 16) (w : World) :
    Calls Tryd.prog 48 #[.int .i64 n, .int .i64 b] w fun e w' => e = .returned (sv [dig n]) ∧ ∃ k, w' = w.drewN k := by
  have hni : (n : Int) < b := by omega
  have hn16 : n < 16 := by omega
  have HC : Hid (baL [dig n] = (ByteArray.mk #[48, 49, 50, 51, 52, 53, 54, 55, 56, 57, 97, 98, 99, 100, 101, 102]).extract n (n + 1)) := Lib.hid (dig_cut hn16)
  go_enter Tryd.func48, Tryd.ntmps48
  go_wp2_with fail
  go_ret
  exact ⟨by show Ending.returned (.string _) = .returned (.string _); rw [show (⟨[dig n].toArray⟩ : ByteArray) = baL [dig n] from rfl, HC.out], 0, rfl⟩

set_option maxHeartbeats 4000000 in
theorem number_any (b : Nat) (h0 : 2 ≤ b) (hb : b ≤ 16) : ∀ (f n : Nat), f ≤ 10 → n < b ^ (f + 1) → n ≤ 1000000 → ∀ w : World,
    Calls Tryd.prog 48 #[.int .i64 n, .int .i64 b] w fun e w' => e = .returned (sv (digsF f b n)) ∧ ∃ k, w' = w.drewN k
  | 0, n, _, h, _, w => number_one b n (by simpa using h) hb w
  | f + 1, n, hf, h, hn, w => by
    by_cases hs : n < b
    · rw [digsF_small hs]; exact number_one b n hs hb w
    · have hni : ¬ (n : Int) < b := by omega
      obtain ⟨q, r, hq, hr, hqt, hrt, hqw, hrw, hrb, hqn⟩ := div_arith (n := n) h0 hn
      have hqlt : q < b ^ (f + 1) := by rw [hq]; exact Nat.div_lt_of_lt_mul (by rw [Nat.mul_comm, ← Nat.pow_succ]; exact h)
      have hrlt : r < b ^ (f + 1) := Nat.lt_of_lt_of_le hrb (by rw [Nat.pow_succ]; exact Nat.le_mul_of_pos_left _ (Nat.pow_pos (by omega)))
      have hd : digsF (f + 1) b n = digsF f b q ++ digsF f b r := by rw [digsF_small hrb, digsF, if_neg hs, hq, hr]
      have ih := fun n => number_any b h0 hb f n (by omega)
      have hl1 := digsF_len f b q
      have hl2 := digsF_len f b r
      have hsv : sv (digsF (f + 1) b n) = .string (baL (digsF f b q) ++ baL (digsF f b r)) := by
        rw [hd, ← baL_append]; rfl
      rw [hsv]
      obtain ⟨G, hG⟩ : ∃ G : Nat → ByteArray, G = fun m => baL (digsF f b m) := ⟨_, rfl⟩
      have hGq : baL (digsF f b q) = G q := by rw [hG]
      have hGr : baL (digsF f b r) = G r := by rw [hG]
      rw [hGq, hGr]
      have ih : ∀ m : Nat, m < b ^ (f + 1) → m ≤ 1000000 → ∀ w, Calls Tryd.prog 48 #[.int .i64 m, .int .i64 b] w fun e w' => e = .returned (.string (G m)) ∧ ∃ k, w' = w.drewN k := by rw [hG]; exact ih
      have hnov : ¬ 9223372036854775807 < (G q).size + (G r).size := by
        have e : ∀ m, (G m).size = (digsF f b m).length := by intro m; rw [hG]; simp [baL, ByteArray.size]
        rw [e, e]; omega
      have hb0 : ¬ (b : Int) = 0 := by omega
      obtain ⟨B, hB⟩ : ∃ B, B = b ^ (f + 1) := ⟨_, rfl⟩
      rw [← hB] at hqlt hrlt ih
      have hr6 : r ≤ 1000000 := by omega
      have hq6 : q ≤ 1000000 := by omega
      have HI := Lib.hid ih
      clear ih hl1 hl2 hsv hd hG hGq hGr hq hr h hs hB
      go_enter Tryd.func48, Tryd.ntmps48
      go_upto_region 3 with fail
      have H1 := Lib.hid (fun w => HI.out q hqlt hq6 w)
      have H2 := Lib.hid (fun w => HI.out r hrlt hr6 w)
      go_quiet ((go_at_call 48; first | (refine Calls.quiet_of (v := .string (G q)) ?_; with_reducible exact H1.out _) | (refine Calls.quiet_of (v := .string (G r)) ?_; with_reducible exact H2.out _)))
      go_wp2
      go_ret
      exact ⟨rfl, _, rfl⟩
end
section
open Go.RowKit
set_option linter.unusedVariables false
set_option maxRecDepth 20000

theorem int_info : (Tryd.prog.info? 3).map (fun i => (i.zero, i.size, i.bytes)) = some (some (.int .i64 0), 1, 8) := by kernel_rfl
theorem dec_num (n : Nat) (hn : n < 256) (w : World) : Calls Tryd.prog 48 #[.int .i64 n, .int .i64 10] w fun e w' => e = .returned (sv (dec n)) ∧ ∃ k, w' = w.drewN k :=
  number_any 10 (by omega) (by omega) 2 n (by omega) (by omega) (by omega) w
theorem hex_num (n : Nat) (hn : n < 65536) (w : World) : Calls Tryd.prog 48 #[.int .i64 n, .int .i64 16] w fun e w' => e = .returned (sv (hex n)) ∧ ∃ k, w' = w.drewN k :=
  number_any 16 (by omega) (by omega) 3 n (by omega) (by omega) (by omega) w

abbrev boxW (w : World) (p : ByteArray) (n : Nat) : World := w.alloc (.cells #[.string p, .int .i64 n] 24)
theorem labs_start (w : World) (p : ByteArray) (n : Nat) (S : ByteArray) (q : Nat) (t : TypeId) :
    OB (w.heap.size + 1) (boxW w p n) (.slice (some ⟨w.heap.size + 1, 0, none⟩) 1 1) 1 [.string S] (((boxW w p n).drewN q).alloc (.cells #[.string S] t)) := by
  have hs : (boxW w p n).heap.size = w.heap.size + 1 := by simp
  have h := OB.fresh (B := w.heap.size + 1) (W := boxW w p n) (w := (boxW w p n).drewN q) ⟨rfl, rfl, rfl, Nat.le_refl _, fun _ _ => rfl⟩ (by show _ ≤ (boxW w p n).heap.size; omega) #[.string S] t 1 [.string S] rfl rfl (by decide)
  rw [show ((boxW w p n).drewN q).heap.size = w.heap.size + 1 from hs] at h
  exact h
theorem labs_box {w wr : World} {p : ByteArray} {n k : Nat} {v : Value} {l : List Value} (h : OB (w.heap.size + 1) (boxW w p n) v k l wr) : Cs wr w.heap.size [.string p, .int .i64 n] :=
  (Cs.new w #[.string p, .int .i64 n] 24 _).block (h.bel.block _ (by omega)) h.bel.size
theorem labs_end {w wr : World} {p : ByteArray} {n k : Nat} {v : Value} {l : List Value} (h : OB (w.heap.size + 1) (boxW w p n) v k l wr) : OB w.heap.size w v k l wr :=
  h.out (by omega) ((Below.refl _ _).alloc (Nat.le_refl _) _)
def lab4 (p : ByteArray) (n i : Nat) : List Value := sv (dec n) :: ((p.data.toList.drop i).reverse.map fun c => sv (dec c.toNat))
theorem lab4_next (p : ByteArray) (n m : Nat) (h : m < p.size) : lab4 p n m = lab4 p n (m + 1) ++ [sv (dec p[m].toNat)] := by
  unfold lab4
  rw [List.drop_eq_getElem_cons (by simpa using h), List.reverse_cons, List.map_append]
  rfl
theorem lab4_all (p : ByteArray) (n : Nat) (h : p.size = 4) : lab4 p n 0 = (prefixL p.data.toList n).map sv := by
  unfold lab4 prefixL body
  rw [if_neg (by simp; omega)]
  simp
theorem lab4_none (p : ByteArray) (n : Nat) (h : p.size = 4) : lab4 p n 4 = [sv (dec n)] := by
  unfold lab4
  rw [List.drop_eq_nil_of_le (by simp; omega)]; rfl

set_option maxHeartbeats 8000000 in
theorem labels4_any (p : ByteArray) (n : Nat) (hn : n < 256) (hp : p.size = 4) (w : World) :
    Calls Tryd.prog 19 #[.agg #[.string p, .int .i64 n]] w fun e w' => ∃ v, e = .returned v ∧ OB w.heap.size w v 5 ((prefixL p.data.toList n).map sv) w' := by
  obtain ⟨i0, hi, hz0, hz1, hz2⟩ := info_parts str_info
  have hnum := dec_num n hn
  obtain ⟨S, hS⟩ : ∃ S, S = baL (dec n) := ⟨_, rfl⟩
  have hS2 : sv (dec n) = .string S := by rw [hS]; rfl
  rw [hS2] at hnum
  have HNUM := Lib.hid hnum
  have HS2 := Lib.hid hS2
  have h4 : ((p.size : Int) == 4) = true := by rw [beq_iff_eq]; omega
  have hst := fun q => labs_start w p n S q 9
  have hG0 := lab4_none p n hp
  rw [hS2] at hG0
  have HG0 := Lib.hid hG0
  have HST := Lib.hid hst
  have HA := Lib.hid (lab4_all p n hp)
  clear hnum hS hS2 hst hG0
  go_enter Tryd.func19, Tryd.ntmps19
  go_upto_region 4 with (go_at_call 48; refine (HNUM.out _).mono ?_; rintro e w1 ⟨rfl, q1, rfl⟩)
  go_loopw [3, 4] (fun v3 v4 wr => ∃ i K : Nat, K + i = 5 ∧ 1 ≤ K ∧ v4 = .int .i64 ((i : Int) - 1) ∧ OB (w.heap.size + 1) (boxW w p n) v3 K (lab4 p n i) wr) (fun _ v4 _ => ((intOf v4) + 1).toNat)
  case atStart => exact ⟨4, 1, by omega, by omega, by go_num, by rw [HG0.out]; exact HST.out q1⟩
  case round =>
    obtain ⟨i, K, hiK, hK1, rfl, hb⟩ := hrel
    have hc0 := (labs_box hb).get 0 (.string p)
    obtain ⟨D, cd, rfl, hd1, hd2, hd3⟩ := hb.slice
    rcases i with _ | m
    · rw [HA.out] at hb
      obtain rfl : K = 5 := by omega
      have HB := Lib.hid hb
      clear hb hd3
      go_wp2
      go_ret
      exact ⟨_, rfl, labs_end HB.out⟩
    · have em : ((m + 1 : Nat) : Int) - 1 = (m : Int) := by omega
      rw [em]
      have hmp : m < p.size := by omega
      have hmpi : (m : Int) < p.size := by omega
      have hm0 : (0 : Int) ≤ m := by omega
      have hnx := lab4_next p n m hmp
      have hit := dec_num p[m].toNat (p[m]).toNat_lt
      obtain ⟨T, hT⟩ : ∃ T, T = baL (dec p[m].toNat) := ⟨_, rfl⟩
      have hT2 : sv (dec p[m].toNat) = .string T := by rw [hT]; rfl
      rw [hT2] at hnx hit
      have h256 := (p[m]).toNat_lt
      have HI := Lib.hid hit
      have HNX := Lib.hid hnx
      have HB := Lib.hid hb
      clear hit hnx hT hT2 hb hd3 em
      go_wp2_with (go_at_call 48; refine (HI.out _).mono ?_; rintro e w2 ⟨rfl, q2, rfl⟩; refine Hid.out ?_)
      refine Lib.hid ?_
      have hb2 := HB.out.drewN q2
      go_wp2_with (at_builtin; go_loud (refine wpList_append_ob rfl _ _ 31 31 rfl 9 i0 _ 16 Tryd.underlying31 hi hz0 hz1 hz2 rfl (hb2.alloc _) rfl rfl (src_one (wr.drewN q2) Tryd.underlying31 _ _) ?c1 ?c2 ?_))
      case c1 => unfold maxLen; omega
      case c2 => omega
      intro v' w3 hb4 _ _ _
      go_wp2
      go_roundw
      case rel => exact ⟨m, K + 1, by omega, by omega, by go_num, by rw [HNX.out]; exact hb4⟩
      case measure => simp [intOf]
end
section
open Go.RowKit
set_option linter.unusedVariables false
set_option maxRecDepth 20000

attribute [local simp] putsF isV wordOf Deps Region.binds Region.wanted Act.put wantedX isB
theorem lab_follows : Tryd.prog.follows .mixedOrders = true := by kernel_rfl
def litZ (n : Nat) (vs : List Value) : Value → World → Prop := fun v w => ∃ g, v = .slice (some ⟨g, 0, none⟩) n n ∧ Cs w g vs
theorem litZ_stays (n : Nat) (vs : List Value) : ∀ v w w', litZ n vs v w → Goes w w' → litZ n vs v w' := by
  rintro v w w' ⟨g, rfl, h⟩ hb
  exact ⟨g, rfl, h.below hb⟩
theorem oper_app_ob {P : Program} {o : Oper} {a : Act} {Q : Exit → Act → World → Prop} {K : Act → World → Prop} {w : World} (s x : Operand) (t tx : TypeId)
    (ho : o.op = .call { callee := .builtin .append, args := #[s, x], argTypes := #[t, tx] })
    (e : TypeId) (i : TypeInfo) (z : Value) (bytes : Nat) (ht : P.underlying t = some (.slice e)) (hi : P.info? e = some i) (hz : i.zero = some z) (hsize : i.size = 1) (hby : i.bytes = bytes) (hzs : z.cells.size = 1)
    {B : Nat} {v : Value} {n : Nat} {l : List Value} {W : World} (hb : OB B W v n l w) (hs : a.eval s = v) {vx : Value} {m : Nat} {news : List Value} (hx : a.eval x = vx) (hsrc : Src P 1 tx vx m news w)
    (hlen : n + m ≤ maxLen) (hbytes : (n + m) * bytes ≤ 140737488355328)
    (h : ∀ v' w', OB B W v' (n + m) (l ++ news) w' → w.heap.size ≤ w'.heap.size → (∀ k, k < w.heap.size → some k ≠ v.ownBlock → w'.heap[k]? = w.heap[k]?) → (v'.ownBlock = v.ownBlock ∨ v'.ownBlock = some w.heap.size) → K (a.put o.dst v') w') :
    Oper.wp P o a w K Q := by
  obtain ⟨v', w', hr, h1, h2, h3, h4⟩ := run_append_ob (P := P) t tx o.type e i z bytes ht hi hz hsize hby hzs hb vx m news hsrc hlen hbytes
  unfold Oper.wp execOp
  simp only [ho, resolve, invoke, builtin, Sem.run_bind, Sem.run_pure, Result.andThen_ok, List.map_toArray, List.map_cons, List.map_nil, hs, hx, hr]
  exact h v' w' h1 h2 h3 h4
def ownZ (B : Nat) (W : World) (n : Nat) (l : List Value) : Value → World → Prop := fun v w => OB B W v n l w
theorem ownZ_stays (B : Nat) (W : World) (n : Nat) (l : List Value) : ∀ v w w', ownZ B W n l v w → Goes w w' → ownZ B W n l v w' := fun _ _ _ h hb => OB.keep h hb (Nat.le_refl _)
theorem zuntil_self {K : Nat} {p : Value → World → Prop} {d : Nat → Bool} {v : Value} {w : World} : until_ K p (setD d K) v w := fun hk => by simp [setD] at hk
theorem zuntil_of {k : Nat} {p : Value → World → Prop} {d : Nat → Bool} {v : Value} {w : World} (h : p v w) : until_ k p d v w := fun _ => h
theorem zuntil_mono {k : Nat} {p : Value → World → Prop} {d : Nat → Bool} {K : Nat} {v : Value} {w : World} (h : until_ k p d v w) : until_ k p (setD d K) v w := fun hk => h (setD_false hk)
def wl (ws : List Nat) (k : Nat) : List Value := (ws.take k).map fun n => .int .i64 (n : Nat)
theorem wl_next (p : ByteArray) (ws : List Nat) (h : Six p ws) (k q r : Nat) (hk : k < 8) (hq : q = 2 * k) (hr : r = q + 1) (hqp : q < p.size) (hrp : r < p.size) :
    wl ws (k + 1) = wl ws k ++ [.int .i64 ((p[q].toNat : Int) * 256 + p[r].toNat)] := by
  have hlen := h.len
  have hkl : k < ws.length := by omega
  have hg : ws[k] = p[q].toNat * 256 + p[r].toNat := by
    have h1 := wordsL_get p.data.toList k (by have := h.size; simp; omega)
    rw [← h.words, List.getElem?_eq_getElem hkl] at h1
    have h2 := Option.some.inj h1
    subst hr; subst hq
    rw [h2]
    rfl
  unfold wl
  rw [List.take_succ_eq_append_getElem hkl, List.map_append, List.map_cons, List.map_nil, hg]
  simp
/-- The labels so far, of the words from i on, turned round. -/
def runB (z : List Bool) (i : Nat) : Int × Nat := ((List.range' i (8 - i)).reverse).foldl (runStepS z) (-1, 1)
theorem range_down {i : Nat} (h : i < 8) : (List.range' i (8 - i)).reverse = (List.range' (i + 1) (8 - (i + 1))).reverse ++ [i] := by
  rw [show 8 - i = 8 - (i + 1) + 1 by omega, List.range'_succ]; simp
theorem runB_next (z : List Bool) {i : Nat} (h : i < 8) : runB z i = runStepS z (runB z (i + 1)) i := by
  unfold runB; rw [range_down h, List.foldl_append]; rfl
theorem runB_start (z : List Bool) : runB z 8 = (-1, 1) := rfl
theorem runB_all (z : List Bool) : runB z 0 = runS z := rfl
def idxB (fm : Int × Nat) (i : Nat) : List (Option Nat) := ((List.range' i (8 - i)).reverse).flatMap (idxS1 fm)
theorem idxB_next (fm : Int × Nat) {i : Nat} (h : i < 8) : idxB fm i = idxB fm (i + 1) ++ idxS1 fm i := by
  unfold idxB; rw [range_down h, List.flatMap_append]; simp
theorem idxB_start (fm : Int × Nat) : idxB fm 8 = [] := rfl
theorem idxB_all (z : List Bool) : idxB (runS z) 0 = idxS z := rfl
theorem runB_le : ∀ z : List Bool, z.length = 8 → ∀ i : Fin 9, -1 ≤ (runB z i.val).1 ∧ (runB z i.val).1 < 8 ∧ 1 ≤ (runB z i.val).2 ∧ (runB z i.val).2 ≤ 8 := by
  intro z hz
  revert hz; revert z
  apply all_b8
  decide +kernel

theorem keep5 {w0 w1 w2 : World} {g5 n1 : Nat} {v : Value} {P : Nat → Value} (hb : Below w0.heap.size w0 w1) (hg : g5 < w0.heap.size) (hv : some g5 ≠ v.ownBlock) (hn : w0.heap.size ≤ n1) (h2 : n1 ≤ w2.heap.size)
    (h3 : ∀ k, k < n1 → some k ≠ v.ownBlock → w2.heap[k]? = w1.heap[k]?) (hc : ∀ k, k < 8 → w0.cell? ⟨g5, k, none⟩ = some (P k)) : (∀ k, k < 8 → w2.cell? ⟨g5, k, none⟩ = some (P k)) ∧ g5 < w2.heap.size := by
  refine ⟨fun k hk => ?_, by omega⟩
  rw [World.cell?_of_block (a := ⟨g5, k, none⟩) ((h3 g5 (by omega) hv).trans (hb.block g5 hg))]
  exact hc k hk
def labX (ws : List Nat) (n : Nat) (fm : Int × Nat) (i : Nat) : List Value := sv (dec n) :: ((idxB fm i).map (lab ws)).map sv
theorem labX_next (ws : List Nat) (n : Nat) (fm : Int × Nat) {j : Nat} (h : j < 8) (o : List (Option Nat)) (ho : idxS1 fm j = o) : labX ws n fm j = labX ws n fm (j + 1) ++ (o.map (lab ws)).map sv := by
  unfold labX
  rw [idxB_next fm h, ho]; simp
theorem idxS1_cases (f : Int) (m j : Nat) (hf : -1 ≤ f) : (idxS1 (f, m) j = [none] ∧ 0 ≤ f ∧ f = j) ∨ (idxS1 (f, m) j = [] ∧ 0 ≤ f ∧ ((j : Int) == f) = false ∧ f < j ∧ (j : Int) < f + m) ∨
    (idxS1 (f, m) j = [some j] ∧ 0 ≤ f ∧ ((j : Int) == f) = false ∧ f < j ∧ ¬ (j : Int) < f + m) ∨ (idxS1 (f, m) j = [some j] ∧ 0 ≤ f ∧ ((j : Int) == f) = false ∧ ¬ f < j) ∨ (idxS1 (f, m) j = [some j] ∧ f = -1) := by
  unfold idxS1
  simp only
  by_cases h0 : 0 ≤ f
  · by_cases h1 : (j : Int) = f
    · left; rw [if_pos ⟨h0, h1⟩]; exact ⟨rfl, h0, h1.symm⟩
    · have hb : ((j : Int) == f) = false := by rw [beq_eq_false_iff_ne]; exact h1
      rw [if_neg (by omega)]
      by_cases h2 : f < j
      · by_cases h3 : (j : Int) < f + m
        · right; left; rw [if_pos ⟨h0, h2, h3⟩]; exact ⟨rfl, h0, hb, h2, h3⟩
        · right; right; left; rw [if_neg (by omega)]; exact ⟨rfl, h0, hb, h2, h3⟩
      · right; right; right; left; rw [if_neg (by omega)]; exact ⟨rfl, h0, hb, h2⟩
  · right; right; right; right; rw [if_neg (by omega), if_neg (by omega)]; exact ⟨rfl, by omega⟩

set_option maxHeartbeats 8000000 in
theorem labels16_any (p : ByteArray) (n : Nat) (hn : n < 256) (ws : List Nat) (h6 : Six p ws) (w : World) :
    Calls Tryd.prog 19 #[.agg #[.string p, .int .i64 n]] w fun e w' => ∃ v, e = .returned v ∧ OB w.heap.size w v (prefixL p.data.toList n).length ((prefixL p.data.toList n).map sv) w' := by
  obtain ⟨i0, hi, hz0, hz1, hz2⟩ := info_parts str_info
  obtain ⟨i1, gi, gz0, gz1, gz2⟩ := info_parts int_info
  have hp := h6.size
  have hnum := dec_num n hn
  obtain ⟨S, hS⟩ : ∃ S, S = baL (dec n) := ⟨_, rfl⟩
  have hS2 : sv (dec n) = .string S := by rw [hS]; rfl
  rw [hS2] at hnum
  have HNUM := Lib.hid hnum
  have HS2 := Lib.hid hS2
  have h4 : ((p.size : Int) == 4) = false := by rw [beq_eq_false_iff_ne]; omega
  have hst := fun q => labs_start w p n S q 9
  have HST := Lib.hid hst
  have HSX := Lib.hid h6
  clear hnum hS hS2 hst h6
  go_enter Tryd.func19, Tryd.ntmps19
  go_upto_region 10 with (go_at_call 48; refine (HNUM.out _).mono ?_; rintro e w1 ⟨rfl, q1, rfl⟩)
  have hst := HST.out q1
  have HS1 := Lib.hid hst
  generalize ((w.alloc (.cells #[.string p, .int .i64 n] 24)).drewN q1).alloc (.cells #[.string S] 9) = W2 at HS1 ⊢
  clear hst HST
  go_loopw [5, 6] (fun v5 v6 wr => ∃ k q : Nat, q = 2 * k ∧ k ≤ 8 ∧ v6 = .int .i64 q ∧ OB W2.heap.size W2 v5 k (wl ws k) wr) (fun _ v6 _ => 16 - (intOf v6).toNat)
  case atStart => exact ⟨0, 0, rfl, by omega, by go_num, OB.start _⟩
  case round =>
    obtain ⟨k, q, hq, hk, rfl, hb⟩ := hrel
    obtain ⟨D, cd, rfl, hd1, hd2, hd3⟩ := hb.slice
    have hkeep := HS1.out.keep hb.below (Nat.le_refl _)
    have hc0 := (labs_box hkeep).get 0 (.string p)
    by_cases hk8 : k < 8
    · have hq16 : (q : Int) < 16 := by omega
      obtain ⟨r, hr⟩ : ∃ r, r = q + 1 := ⟨_, rfl⟩
      have hqp : q < p.size := by omega
      have hrp : r < p.size := by omega
      have HNX := Lib.hid (wl_next p ws HSX.out k q r hk8 hq hr hqp hrp)
      have f1 : (q : Int) + 1 = r := by omega
      have f2 : (q : Int) < p.size := by omega
      have f3 : (r : Int) < p.size := by omega
      have hr16 : (r : Int) < 16 := by omega
      have hrn : r < 16 := by omega
      have f4 : (0 : Int) ≤ q := by omega
      have f5 : (0 : Int) ≤ r := by omega
      have b1 := (p[q]).toNat_lt
      have b2 := (p[r]).toNat_lt
      have g1 : IntKind.i64.wrap (r : Int) = r := IntWalk.i64_in _ (by omega)
      have g2 : IntKind.i64.wrap ((p[q].toNat : Int) * 256) = (p[q].toNat : Int) * 256 := IntWalk.i64_in _ (by omega)
      have g3 : IntKind.i64.wrap ((p[q].toNat : Int) * 256 + p[r].toNat) = (p[q].toNat : Int) * 256 + p[r].toNat := IntWalk.i64_in _ (by omega)
      have HB := Lib.hid hb
      have HQ := Lib.hid hq
      clear hb hd3 hr hq
      have g4 : IntKind.i64.wrap (p[q].toNat : Int) = p[q].toNat := IntWalk.i64_in _ (by omega)
      have g5 : IntKind.i64.wrap (p[r].toNat : Int) = p[r].toNat := IntWalk.i64_in _ (by omega)
      have HC0 := Lib.hid (fun (v : World) (h : Below W2.heap.size W2 v) => (labs_box HS1.out).below h)
      clear hkeep hc0
      go_upto_region 12 with fail
      refine wp_region_expR lab_follows (fun x => by simp [putsF, Act.put]; rfl) (fun d x v => Below W2.heap.size W2 v ∧ wr.heap.size ≤ v.heap.size ∧ (d 15 = false → Below wr.heap.size wr v) ∧ (d 16 = false → x 16 = .slice D k cd))
        [isX (.slice D k cd), isX (.pointer (some ⟨w.heap.size, 0, none⟩)), isX (.string p), isX (.int .i64 q), isX (.int .u8 (p[q].toNat : Int)), isX (.int .i64 (p[q].toNat : Int)), isX (.int .i64 ((p[q].toNat : Int) * 256)), isX (.pointer (some ⟨w.heap.size, 0, none⟩)), isX (.string p), isX (.int .i64 q), isX (.int .i64 r), isX (.int .u8 (p[r].toNat : Int)), isX (.int .i64 (p[r].toNat : Int)), isX (.int .i64 ((p[q].toNat : Int) * 256 + (p[r].toNat : Int))), until_ 15 (litZ 1 [.int .i64 ((p[q].toNat : Int) * 256 + (p[r].toNat : Int))]), always (ownZ W2.heap.size W2 (k + 1) (wl ws k ++ [.int .i64 ((p[q].toNat : Int) * 256 + (p[r].toNat : Int))])), always (ownZ W2.heap.size W2 (k + 1) (wl ws k ++ [.int .i64 ((p[q].toNat : Int) * 256 + (p[r].toNat : Int))]))]
        [0, 15] (by kernel_rfl) (by kernel_rfl) (by kernel_rfl) rfl ?_ ⟨HB.out.bel.drew, Nat.le_refl _, fun _ => (Below.refl _ _).drew, fun _ => rfl⟩ ?_ ?_ ?_
      · repeat (first | exact trivial | refine ⟨by first | exact isX_stays _ | exact until_stays (litZ_stays _ _) | exact always_stays (ownZ_stays _ _ _ _), ?_⟩)
      · refine ⟨skipped rfl, ?_, ?_, ?_, ?_, ?_, ?_, ?_, ?_, ?_, ?_, ?_, ?_, ?_, ?_, skipped rfl, ?_, trivial⟩
        all_goals
          intro _ d x wx hR hdi hsrc hd
          refine ⟨fun _ => ?_, fun hX => by simp at hX⟩
          simp [wordX, isX] at hd ⊢
        · go_simp; exact nextXR _ rfl rfl ⟨hR.1, hR.2.1, fun h => hR.2.2.1 (setD_false h), held_next hR.2.2.2 (by decide)⟩ (Below.refl _ _)
        · have c0 := (HC0.out wx hR.1).get 0 (.string p)
          go_simp; exact nextXR _ rfl rfl ⟨hR.1, hR.2.1, fun h => hR.2.2.1 (setD_false h), held_next hR.2.2.2 (by decide)⟩ (Below.refl _ _)
        · go_simp; exact nextXR _ rfl rfl ⟨hR.1, hR.2.1, fun h => hR.2.2.1 (setD_false h), held_next hR.2.2.2 (by decide)⟩ (Below.refl _ _)
        · obtain ⟨hd0, hd1⟩ := hd
          go_simp; exact nextXR _ rfl rfl ⟨hR.1, hR.2.1, fun h => hR.2.2.1 (setD_false h), held_next hR.2.2.2 (by decide)⟩ (Below.refl _ _)
        · go_simp; exact nextXR _ rfl rfl ⟨hR.1, hR.2.1, fun h => hR.2.2.1 (setD_false h), held_next hR.2.2.2 (by decide)⟩ (Below.refl _ _)
        · go_simp; exact nextXR _ rfl rfl ⟨hR.1, hR.2.1, fun h => hR.2.2.1 (setD_false h), held_next hR.2.2.2 (by decide)⟩ (Below.refl _ _)
        · go_simp; exact nextXR _ rfl rfl ⟨hR.1, hR.2.1, fun h => hR.2.2.1 (setD_false h), held_next hR.2.2.2 (by decide)⟩ (Below.refl _ _)
        · have c0 := (HC0.out wx hR.1).get 0 (.string p)
          go_simp; exact nextXR _ rfl rfl ⟨hR.1, hR.2.1, fun h => hR.2.2.1 (setD_false h), held_next hR.2.2.2 (by decide)⟩ (Below.refl _ _)
        · go_simp; exact nextXR _ rfl rfl ⟨hR.1, hR.2.1, fun h => hR.2.2.1 (setD_false h), held_next hR.2.2.2 (by decide)⟩ (Below.refl _ _)
        · go_simp; exact nextXR _ rfl rfl ⟨hR.1, hR.2.1, fun h => hR.2.2.1 (setD_false h), held_next hR.2.2.2 (by decide)⟩ (Below.refl _ _)
        · obtain ⟨hd0, hd1⟩ := hd
          go_simp; exact nextXR _ rfl rfl ⟨hR.1, hR.2.1, fun h => hR.2.2.1 (setD_false h), held_next hR.2.2.2 (by decide)⟩ (Below.refl _ _)
        · go_simp; exact nextXR _ rfl rfl ⟨hR.1, hR.2.1, fun h => hR.2.2.1 (setD_false h), held_next hR.2.2.2 (by decide)⟩ (Below.refl _ _)
        · obtain ⟨hd0, hd1⟩ := hd
          go_simp; exact nextXR _ rfl rfl ⟨hR.1, hR.2.1, fun h => hR.2.2.1 (setD_false h), held_next hR.2.2.2 (by decide)⟩ (Below.refl _ _)
        · go_simp
          exact nextXR _ rfl (zuntil_of ⟨_, rfl, Cs.new _ _ _ _⟩) ⟨hR.1.trans (((Below.refl wx.heap.size wx).alloc (Nat.le_refl _) _).mono hR.1.size), Nat.le_trans hR.2.1 (((Below.refl wx.heap.size wx).alloc (Nat.le_refl _) _)).size, fun h => (hR.2.2.1 (setD_false h)).trans (((Below.refl wx.heap.size wx).alloc (Nat.le_refl _) _).mono hR.2.1), held_next hR.2.2.2 (by decide)⟩ ((Below.refl wx.heap.size wx).alloc (Nat.le_refl _) _)
        · have h15 : ownZ W2.heap.size W2 (k + 1) (wl ws k ++ [.int .i64 ((p[q].toNat : Int) * 256 + (p[r].toNat : Int))]) (x 15) wx := by first | exact hd | exact hd.1
          go_simp; exact nextXR _ rfl h15 ⟨hR.1, hR.2.1, fun h => hR.2.2.1 (setD_false h), held_self⟩ (Below.refl _ _)
      · refine ⟨?_, unskipped rfl, unskipped rfl, unskipped rfl, unskipped rfl, unskipped rfl, unskipped rfl, unskipped rfl, unskipped rfl, unskipped rfl, unskipped rfl, unskipped rfl, unskipped rfl, unskipped rfl, unskipped rfl, ?_, unskipped rfl, trivial⟩
        · intro _ d x wx hR hdi hcl hsrc hd
          refine ⟨fun _ => ?_, fun hX => by simp at hX⟩
          have d16 : d 16 = false := by
            cases e : d 16 with
            | false => rfl
            | true => have := hcl.reach 20 0 16 (by kernel_rfl) e; rw [hdi] at this; cases this
          have hx16 := hR.2.2.2 d16
          dsimp only
          rw [hx16]
          go_simp
          refine nextKR _ rfl rfl ⟨hR.1, hR.2.1, fun h => hR.2.2.1 (setD_false h), held_next hR.2.2.2 (by decide)⟩ ?_
          exact ⟨fun h => absurd rfl h, fun _ _ h => h, fun _ _ h => h, fun _ _ h => h, fun _ _ h => h, fun _ _ h => h, fun _ _ h => h, fun _ _ h => h, fun _ _ h => h, fun _ _ h => h, fun _ _ h => h, fun _ _ h => h, fun _ _ h => h, fun _ _ h => h, fun _ _ h => zuntil_mono h, fun _ _ h => h, fun _ _ h => h, trivial⟩
        · intro _ d x wx hR hdi hcl hsrc hd
          refine ⟨fun _ => ?_, fun hX => by simp at hX⟩
          have d0 : d 0 = true := SrcX.reach (K := 15) hcl hsrc rfl 20 0 (by decide) (by kernel_rfl)
          have d14 : d 14 = true := SrcX.reach (K := 15) hcl hsrc rfl 20 14 (by decide) (by kernel_rfl)
          simp only [DoneX] at hd
          obtain ⟨h0, -, -, -, -, -, -, -, -, -, -, -, -, -, h14, -⟩ := hd
          have hx0 : x 0 = .slice D k cd := h0 d0
          obtain ⟨g, hx14, hcg⟩ : litZ 1 [.int .i64 ((p[q].toNat : Int) * 256 + (p[r].toNat : Int))] (x 14) wx := h14 d14 hdi
          have hoV := HB.out.keep (hR.2.2.1 hdi) (Nat.le_refl _)
          dsimp only
          rw [hx0, hx14]
          refine oper_app_ob _ _ _ _ rfl 3 i1 _ 8 Tryd.underlying59 gi gz0 gz1 gz2 rfl hoV rfl rfl (Src.ofSlice _ Tryd.underlying59 ⟨g, 0, none⟩ 1 1 [.int .i64 ((p[q].toNat : Int) * 256 + (p[r].toNat : Int))] rfl (fun j u hu => by rw [Addr.add_lit, Nat.zero_add]; exact hcg.get j u hu) (by intro u hu; simp at hu; subst hu; rfl)) (by unfold maxLen; omega) (by omega) ?_
          intro v2 w' q1 q2 q3 q4
          refine nextKR v2 rfl q1 ⟨q1.bel, Nat.le_trans hR.2.1 q2, fun h => (by rw [setD_self] at h; cases h), held_next hR.2.2.2 (by decide)⟩ ?_
          exact ⟨fun _ _ h => h, fun _ _ h => h, fun _ _ h => h, fun _ _ h => h, fun _ _ h => h, fun _ _ h => h, fun _ _ h => h, fun _ _ h => h, fun _ _ h => h, fun _ _ h => h, fun _ _ h => h, fun _ _ h => h, fun _ _ h => h, fun _ _ h => h, fun _ _ _ => zuntil_self, fun h => absurd rfl h, fun _ h16 _ => (by have := hcl.reach 20 15 16 (by kernel_rfl) h16; rw [hdi] at this; cases this), trivial⟩
      · intro x wy d hall hR hx
        simp only [AllX] at hx
        obtain ⟨-, -, -, -, -, -, -, -, -, -, -, -, -, -, -, -, h16, -⟩ := hx
        have hb4 : OB W2.heap.size W2 (x 16) (k + 1) (wl ws k ++ [.int .i64 ((p[q].toNat : Int) * 256 + (p[r].toNat : Int))]) wy := h16
        generalize x 16 = v6 at *
        have HB4 := Lib.hid hb4
        clear hb4 h16 hR HB
        go_wp2_with fail
        go_roundw
        case rel => exact ⟨k + 1, q + 2, by have := HQ.out; omega, by omega, by go_num, by rw [HNX.out]; exact HB4.out⟩
        case measure => simp [intOf]; omega
    · obtain rfl : k = 8 := by omega
      obtain rfl : q = 16 := by omega
      have hlen := HSX.out.len
      have hob := HS1.out
      have hbo := OB.below hb
      obtain ⟨A5, c5, he5, q1', q2', q3'⟩ := hb.slice3
      injection he5 with e1 e2 e3
      subst e1; subst e3
      obtain ⟨g5, rfl, hg5, hg5'⟩ : ∃ g, D = some ⟨g, 0, none⟩ ∧ W2.heap.size ≤ g ∧ g < wr.heap.size := by
        rcases q3' with ⟨_, h0, _⟩ | h
        · omega
        · exact h
      have hcell : ∀ k, k < 8 → wr.cell? ⟨g5, k, none⟩ = some (.int .i64 (ws.getD k 0 : Nat)) := by
        intro k hk
        refine hb.cell k _ ?_
        unfold wl
        rw [List.take_of_length_le (by omega), List.getElem?_map, List.getD_eq_getElem?_getD, List.getElem?_eq_getElem (by omega)]; rfl
      have hz : ∀ k, k < 8 → (ws.map (· == 0))[k]? = some (ws.getD k 0 == 0) := by
        intro k hk
        rw [List.getElem?_map, List.getD_eq_getElem?_getD, List.getElem?_eq_getElem (by omega)]
        rfl
      have hzl : (ws.map (· == 0)).length = 8 := by simpa using hlen
      have HOUT := Lib.hid (show (prefixL p.data.toList n).map sv = sv (dec n) :: ((idxS (ws.map (· == 0))).map (lab ws)).map sv by
        have h16 : p.data.toList.length = 16 := by simpa using HSX.out.size
        unfold prefixL body
        rw [if_pos h16, ← HSX.out.words, ← body6S_eq ws hlen]; rfl)
      have hxl := fun k => HSX.out.lt k
      have HXL := Lib.hid hxl
      have HCE := Lib.hid hcell
      have HKE := Lib.hid hkeep
      have HBO := Lib.hid hbo
      have HG5 := Lib.hid (And.intro hg5 hg5')
      generalize ws.map (· == 0) = z at *
      have HZ := Lib.hid hz
      have HZL := Lib.hid hzl
      clear hz hzl hcell hxl hlen hob hbo hkeep hb hc0 hg5 hg5' hd1 hd2
      go_upto_region 15 with fail
      go_loopw [7, 8, 9] (fun v7 v8 v9 wx => ∃ (i m : Nat) (f : Int), v7 = .int .i64 f ∧ v8 = .int .i64 m ∧ v9 = .int .i64 ((i : Int) - 1) ∧ i ≤ 8 ∧ Hid (runB z i = (f, m)) ∧ wx = wr) (fun _ _ v9 _ => ((intOf v9) + 1).toNat)
      case atStart => exact ⟨8, 1, -1, by go_num, by go_num, by go_num, by omega, Lib.hid rfl, rfl⟩
      case round =>
        obtain ⟨i, m, f, rfl, rfl, rfl, hi8, HR, rfl⟩ := hrel
        have hbn := runB_le z HZL.out ⟨i, by omega⟩
        simp only at hbn
        rw [HR.out] at hbn
        simp only at hbn
        obtain ⟨hf0, hf8, hm1, hm8⟩ := hbn
        rcases i with _ | j
        · have hX8 : labX ws n (f, m) 8 = [.string S] := by unfold labX; rw [idxB_start, HS2.out]; rfl
          have HX8 := Lib.hid hX8
          have HFIN := Lib.hid (show (prefixL p.data.toList n).map sv = labX ws n (f, m) 0 by
            rw [HOUT.out]; unfold labX
            rw [← idxB_all z, show runS z = (f, m) from (runB_all z).symm.trans HR.out])
          have hne : some g5 ≠ (Value.slice (some ⟨w.heap.size + 1, 0, none⟩) 1 1).ownBlock := by
            intro e
            have e : some g5 = some (w.heap.size + 1) := e
            injection e with e
            have h1 := HS1.out.lt (w.heap.size + 1) rfl
            have := HG5.out.1
            omega
          have HNE := Lib.hid hne
          clear hX8 hne
          have em0 : ((0 : Nat) : Int) - 1 = -1 := rfl
          rw [em0]
          clear em0
          go_upto_region 23 with fail
          go_loopw [3, 11] (fun v3 v11 wx => ∃ i K : Nat, i ≤ 8 ∧ K + i ≤ 9 ∧ v11 = .int .i64 ((i : Int) - 1) ∧ Hid (OB (w.heap.size + 1) (boxW w p n) v3 K (labX ws n (f, m) i) wx) ∧ Hid ((∀ k, k < 8 → wx.cell? ⟨g5, k, none⟩ = some (.int .i64 (ws.getD k 0 : Nat))) ∧ g5 < wx.heap.size) ∧ Hid (some g5 ≠ v3.ownBlock)) (fun _ v11 _ => ((intOf v11) + 1).toNat)
          case atStart => exact ⟨8, 1, by omega, by omega, by go_num, Lib.hid (by rw [HX8.out]; exact HKE.out), Lib.hid ⟨HCE.out, HG5.out.2⟩, HNE⟩
          case round =>
            obtain ⟨i, K, hi9, hKi, rfl, HO, HC5, HN5⟩ := hrel
            have hob := HO.out
            obtain ⟨D3, c3, rfl, hd1, hd2, hd3⟩ := hob.slice
            have HO := Lib.hid hob
            clear hob
            rcases i with _ | j
            · go_wp2
              go_ret
              refine ⟨_, rfl, ?_⟩
              have h := labs_end HO.out
              have hl := h.len
              rw [← HFIN.out] at h hl
              rw [show (prefixL p.data.toList n).length = K by simpa using hl]
              exact h
            · have em : ((j + 1 : Nat) : Int) - 1 = (j : Int) := by omega
              rw [em]
              clear em hi8
              have hj8 : j < 8 := by omega
              have hj0 : (0 : Int) ≤ j := by omega
              have hm8i : (m : Int) ≤ 8 := by omega
              rcases idxS1_cases f m j hf0 with ⟨hI, h0, rfl⟩ | ⟨hI, h0, h1, h2, h3⟩ | ⟨hI, h0, h1, h2, h3⟩ | ⟨hI, h0, h1, h2⟩ | ⟨hI, rfl⟩
              · have hnx := labX_next ws n (j, m) hj8 _ hI
                have HNX := Lib.hid (show labX ws n ((j : Int), m) j = labX ws n ((j : Int), m) (j + 1) ++ [.string ⟨#[122, 122]⟩] from hnx)
                clear hI hnx
                go_wp2_with (at_builtin; go_loud (refine wpList_append_ob rfl _ _ 31 31 rfl 9 i0 _ 16 Tryd.underlying31 hi hz0 hz1 hz2 rfl (HO.out.alloc _) rfl rfl (src_one wr Tryd.underlying31 _ _) ?c1 ?c2 ?_))
                case c1 => unfold maxLen; omega
                case c2 => omega
                intro v' w2 hb4 e2 e3 e4
                have HB4 := Lib.hid hb4
                have HK5 := Lib.hid (keep5 ((Below.refl wr.heap.size wr).alloc (Nat.le_refl _) (.cells #[.string ⟨#[122, 122]⟩] 9)) HC5.out.2 HN5.out (Nat.le_succ _) e2 e3 HC5.out.1)
                have HN6 : Hid (some g5 ≠ v'.ownBlock) := Lib.hid (by
                  rcases e4 with e4 | e4
                  · rw [e4]; exact HN5.out
                  · rw [e4]; intro e; injection e with e; have := HC5.out.2; omega)
                clear hb4 e2 e3 e4 HC5 HN5 HO
                go_wp2
                go_roundw
                case rel => exact ⟨j, K + 1, by omega, by omega, rfl, Lib.hid (by rw [HNX.out]; exact HB4.out), HK5, HN6⟩
                case measure => simp [intOf]
              · have HNX := Lib.hid (show labX ws n (f, m) j = labX ws n (f, m) (j + 1) by have := labX_next ws n (f, m) hj8 _ hI; simpa using this)
                clear hI
                go_wp2
                go_roundw
                case rel => exact ⟨j, K, by omega, by omega, rfl, Lib.hid (by rw [HNX.out]; exact HO.out), HC5, HN5⟩
                case measure => simp [intOf]
              all_goals
                have hnx := labX_next ws n (_, m) hj8 _ hI
                have hnx : labX ws n (_, m) j = labX ws n (_, m) (j + 1) ++ [sv (hex (ws.getD j 0))] := hnx
                have hcs := HC5.out.1 j hj8
                have hxl := HXL.out j
                generalize ws.getD j 0 = x at hnx hcs hxl
                have hit := hex_num x hxl
                obtain ⟨T, hT⟩ : ∃ T, T = baL (hex x) := ⟨_, rfl⟩
                have hT2 : sv (hex x) = .string T := by rw [hT]; rfl
                rw [hT2] at hnx hit
                have HI := Lib.hid hit
                have HNX := Lib.hid hnx
                clear hnx hit hT hT2 hI
                go_wp2_with (go_at_call 48; refine (HI.out _).mono ?_; rintro e w2 ⟨rfl, q2, rfl⟩; refine Hid.out ?_)
                refine Lib.hid ?_
                have hb2 := HO.out.drewN q2
                go_wp2_with (at_builtin; go_loud (refine wpList_append_ob rfl _ _ 31 31 rfl 9 i0 _ 16 Tryd.underlying31 hi hz0 hz1 hz2 rfl (hb2.alloc _) rfl rfl (src_one (wr.drewN q2) Tryd.underlying31 _ _) ?c1 ?c2 ?_))
                case c1 => unfold maxLen; omega
                case c2 => omega
                intro v' w2 hb4 e2 e3 e4
                have HB4 := Lib.hid hb4
                have HK5 := Lib.hid (keep5 ((drewN_below wr q2).alloc (Nat.le_refl _) (.cells #[.string T] 9)) HC5.out.2 HN5.out (Nat.le_succ _) e2 e3 HC5.out.1)
                have HN6 : Hid (some g5 ≠ v'.ownBlock) := Lib.hid (by
                  rcases e4 with e4 | e4
                  · rw [e4]; exact HN5.out
                  · rw [e4]; intro e; injection e with e; have := HC5.out.2; omega)
                clear hb4 e2 e3 e4 HC5 HN5 HO hb2 hcs
                go_wp2
                go_roundw
                case rel => exact ⟨j, K + 1, by omega, by omega, rfl, Lib.hid (by rw [HNX.out]; exact HB4.out), HK5, HN6⟩
                case measure => simp [intOf]
        · have em : ((j + 1 : Nat) : Int) - 1 = (j : Int) := by omega
          rw [em]
          clear em
          have hj8 : j < 8 := by omega
          have hj0 : (0 : Int) ≤ j := by omega
          have hm8i : (m : Int) ≤ 8 := by omega
          have HRN := Lib.hid (runB_next z hj8)
          go_upto_region 18 with fail
          go_loopw [10] (fun v10 wx => ∃ t : Nat, v10 = .int .i64 t ∧ j + t ≤ 8 ∧ Hid (stop z j = stop z (j + t)) ∧ wx = wr) (fun v10 _ => 8 - (intOf v10).toNat)
          case atStart => exact ⟨0, by go_num, by omega, Lib.hid rfl, rfl⟩
          case round =>
            obtain ⟨t, rfl, hjt, HS, rfl⟩ := hrel
            obtain ⟨s, hs⟩ : ∃ s, s = j + t := ⟨_, rfl⟩
            rw [← hs] at HS
            have hsi : (j : Int) + t = s := by omega
            have ht8 : t ≤ 8 := by omega
            have ht0 : (0 : Int) ≤ t := by omega
            have after : ∀ (h : stop z s = s), Hid (runB z j = if max 2 m ≤ t then ((j : Int), t) else (f, m)) := fun h => Lib.hid (by
              rw [HRN.out, HR.out]
              unfold runStepS
              rw [HS.out.trans h, show s - j = t by omega])
            by_cases hs8 : s < 8
            · have hs8i : (s : Int) < 8 := by omega
              have hs0 : (0 : Int) ≤ s := by omega
              have hcs := HCE.out s hs8
              have hzs := HZ.out s hs8
              have hxs := HXL.out s
              generalize ws.getD s 0 = x at hcs hzs hxs
              by_cases hx : x = 0
              · subst hx
                have HS2 := Lib.hid (HS.out.trans (stop_next (z := z) (k := s) (by rw [hzs]; rfl)))
                clear hzs after hs hxs
                go_wp2
                go_roundw
                case rel => exact ⟨t + 1, by go_num, by omega, by rw [show j + (t + 1) = s + 1 by omega]; exact HS2, trivial⟩
                case measure => simp [intOf]; omega
              · have hx0 : ((x : Int) == 0) = false := by rw [beq_eq_false_iff_ne]; omega
                have HA := after (stop_here (by rw [hzs]; simpa using hx))
                clear hzs after hs hx hxs
                by_cases hm : max 2 m ≤ t
                · rw [if_pos hm] at HA
                  have hmi : max 2 (m : Int) ≤ t := by omega
                  go_wp2
                  go_roundw
                  case rel => exact ⟨j, t, j, rfl, rfl, rfl, by omega, HA, trivial⟩
                  case measure => simp [intOf]
                · rw [if_neg hm] at HA
                  have hmi : ¬ max 2 (m : Int) ≤ t := by omega
                  go_wp2
                  go_roundw
                  case rel => exact ⟨j, m, f, rfl, rfl, rfl, by omega, HA, trivial⟩
                  case measure => simp [intOf]
            · obtain rfl : s = 8 := by omega
              have hz8 : z[8]? = none := List.getElem?_eq_none (Nat.le_of_eq HZL.out)
              have HA := after (stop_here (by rw [hz8]; simp))
              clear after hs hz8
              by_cases hm : max 2 m ≤ t
              · rw [if_pos hm] at HA
                have hmi : max 2 (m : Int) ≤ t := by omega
                go_wp2
                go_roundw
                case rel => exact ⟨j, t, j, rfl, rfl, rfl, by omega, HA, trivial⟩
                case measure => simp [intOf]
              · rw [if_neg hm] at HA
                have hmi : ¬ max 2 (m : Int) ≤ t := by omega
                go_wp2
                go_roundw
                case rel => exact ⟨j, m, f, rfl, rfl, rfl, by omega, HA, trivial⟩
                case measure => simp [intOf]
end
section
open Go.RowKit
set_option linter.unusedVariables false
set_option maxRecDepth 20000

theorem take_eq_next {α : Type} {X Y : List α} {k : Nat} (hx : k < X.length) (hy : k < Y.length) (h : X.take k = Y.take k) (he : X[k] = Y[k]) : X.take (k + 1) = Y.take (k + 1) := by
  rw [List.take_succ_eq_append_getElem hx, List.take_succ_eq_append_getElem hy, h, he]

set_option maxHeartbeats 4000000 in
theorem same13_any (A1 A2 : Option Addr) (n c m d : Nat) (X Y : List ByteArray) (w : World) {B1 B2 : Nat} (h1 : Sl w B1 1 A1 n (X.map .string)) (h2 : Sl w B2 1 A2 m (Y.map .string)) (hn : n ≤ maxLen) (hm : m ≤ maxLen) :
    Calls Tryd.prog 18 #[.slice A1 n c, .slice A2 m d] w fun e w' => e = .returned (.bool (decide (X = Y))) ∧ ∃ k, w' = w.drewN k := by
  have hl1 : X.length = n := by simpa using h1.1
  have hl2 : Y.length = m := by simpa using h2.1
  unfold maxLen at hn hm
  by_cases hnm : n = m
  · subst hnm
    have HL1 := Lib.hid hl1
    have HL2 := Lib.hid hl2
    have H1 := Lib.hid h1
    have H2 := Lib.hid h2
    clear hl1 hl2 h1 h2
    go_enter Tryd.func18, Tryd.ntmps18
    go_wp2_with fail
    go_loopw [5, 13] (fun v5 v13 wr => ∃ k : Nat, k ≤ n ∧ v13 = .int .i64 k ∧ Hid (X.take k = Y.take k) ∧ ∃ q, wr = w.drewN q) (fun _ v13 _ => n - (intOf v13).toNat)
    case atStart => exact ⟨0, by omega, by go_num, Lib.hid (by simp), 0, by simp [World.drewN_zero]⟩
    case round =>
      obtain ⟨k, hk, rfl, HE, q, rfl⟩ := hrel
      by_cases hkn : k < n
      · have hkni : (k : Int) < n := by omega
        have hk0 : (0 : Int) ≤ k := by omega
        obtain ⟨b1, o1, u1, rfl, -, hu1, hc1⟩ := H1.out.at_ hkn
        obtain ⟨b2, o2, u2, rfl, -, hu2, hc2⟩ := H2.out.at_ hkn
        have hx : k < X.length := by rw [HL1.out]; exact hkn
        have hy : k < Y.length := by rw [HL2.out]; exact hkn
        simp only [List.getElem?_map, List.getElem?_eq_getElem hx, Option.map_some] at hu1
        simp only [List.getElem?_map, List.getElem?_eq_getElem hy, Option.map_some] at hu2
        have hd1 : w.cell? ⟨b1, o1 + k, none⟩ = some (.string X[k]) := hc1.trans hu1.symm
        have hd2 : w.cell? ⟨b2, o2 + k, none⟩ = some (.string Y[k]) := hc2.trans hu2.symm
        have HNX := Lib.hid (fun he => take_eq_next hx hy HE.out he)
        have HNE := Lib.hid (fun (he : X[k] ≠ Y[k]) (e : X = Y) => he (by subst e; rfl))
        generalize X[k] = x at *
        generalize Y[k] = y at *
        clear hc1 hc2 hu1 hu2 hx hy
        by_cases hxy : x = y
        · subst hxy
          have HT := Lib.hid (HNX.out rfl)
          clear HNX HNE
          go_upto_region 6 with fail
          go_quiet (fail)
          go_wp2
          go_roundw
          case rel => exact ⟨k + 1, by omega, by go_num, HT, _, rfl⟩
          case measure => simp [intOf]; omega
        · have HT := Lib.hid (decide_eq_false (HNE.out hxy))
          have hb : (x.toList == y.toList) = false := by
            rw [beq_eq_false_iff_ne]; intro e; exact hxy (by rw [ByteArray.toList_eq, ByteArray.toList_eq] at e; exact ByteArray.ext (by simpa using congrArg List.toArray e))
          clear HNX HNE
          go_upto_region 6 with fail
          go_quiet (fail)
          go_wp2
          go_ret
          exact ⟨by rw [HT.out]; rfl, q + nq, World.drewN_drewN _ _ _⟩
      · obtain rfl : k = n := by omega
        have HT := Lib.hid (decide_eq_true (show X = Y by
          have h := HE.out
          rwa [List.take_of_length_le (by rw [HL1.out]; exact Nat.le_refl _), List.take_of_length_le (by rw [HL2.out]; exact Nat.le_refl _)] at h))
        go_wp2
        go_ret
        exact ⟨by rw [HT.out]; rfl, _, rfl⟩
  · have hnmi : ((n : Int) == m) = false := by rw [beq_eq_false_iff_ne]; omega
    have HT := Lib.hid (decide_eq_false (fun e : X = Y => hnm (by rw [← hl1, ← hl2, e])))
    clear hl1 hl2 h1 h2
    go_enter Tryd.func18, Tryd.ntmps18
    go_wp2_with fail
    go_ret
    exact ⟨by rw [HT.out]; rfl, 0, rfl⟩
end
section
open Go.RowKit
theorem trigA_shape (t : Trig) : ∃ tk TN TA tb, trigA t = .agg #[.int .i64 tk, .string TN, .string TA, .int .i64 tb] ∧ t = toT tk TN TA tb := ⟨t.kind, baL t.name, baL t.addr, t.bits, rfl, by simp [toT, baL]⟩
open Go.RowKit
set_option linter.unusedVariables false
set_option maxRecDepth 20000

theorem labels13_any (p : ByteArray) (bits : Int) (hm : mayP p.data.toList bits = true) (w : World) :
    Calls Tryd.prog 19 #[.agg #[.string p, .int .i64 bits]] w fun e w' => ∃ v, e = .returned v ∧ OB w.heap.size w v (prefixR p.data.toList bits).length ((prefixR p.data.toList bits).map sv) w' := by
  obtain ⟨h1, h2, h3⟩ := isCut_four (mayP_cut hm)
  rw [show p.data.toList.length = p.size by simp] at h1 h3
  obtain ⟨n, rfl⟩ := Int.eq_ofNat_of_zero_le h2
  have hn : n < 256 := by rcases h1 with h1 | h1 <;> rw [h1] at h3 <;> omega
  have hr : prefixR p.data.toList n = prefixL p.data.toList n := by unfold prefixR; rw [if_pos hm]; rfl
  rw [hr]
  rcases h1 with h | h
  · have h5 : (prefixL p.data.toList n).length = 5 := by
      unfold prefixL body; rw [if_neg (by simp; omega)]; simp; exact h
    rw [h5]; exact labels4_any p n hn h w
  · exact labels16_any p n hn _ ⟨h, rfl⟩ w

theorem field_pfx (tk : Int) (TN TA : ByteArray) (tb : Int) (w : World) : Sem.run Tryd.prog (Instr.field 29 (.agg #[.int .i64 tk, .string TN, .string TA, .int .i64 tb]) 2) w = .ok (.agg #[.string TA, .int .i64 tb]) w := by
  first
  | rfl
  | kernel_rfl

set_option maxHeartbeats 8000000 in
theorem ownerPrefix_walk (w : World) (hL : LaidT w) (six : Bool) (A : Option Addr) (n c : Nat) (zs : List Int) (SA : SlView w A n c (zs.map (Value.int .u8))) (hl : zs.length = n) (hw : ∀ z ∈ zs, (Lit.int .u8 z).wf = true) (hc : c ≤ 140737488351232)
    (bits : Int) (hbi : (Lit.int .u8 bits).wf = true) (p : ByteArray) (hp : p.size ≤ 140737488351232) (pb : Int) (hpb : (Lit.int .i64 pb).wf = true) :
    Calls Tryd.prog 3 #[.bool six, .slice A n c, .int .u8 bits, .agg #[.string p, .int .i64 pb]] w fun e w' => e = .returned (.bool true) ∧ Below w.heap.size w w' := by
  have hn : n ≤ 140737488355328 := by have := SA.le; omega
  have hz : ∀ z ∈ zs, 0 ≤ z ∧ z < 256 := fun z h => by have := bounds_u8 (hw z h); omega
  have hbb := bounds_u8 hbi
  obtain ⟨W0, hW0⟩ : ∃ W0, W0 = w.alloc (.cells #[.string p, .int .i64 pb] 24) := ⟨_, rfl⟩
  have hB0 : Below w.heap.size w W0 := by rw [hW0]; exact (Below.refl w.heap.size w).alloc (Nat.le_refl _) _
  have hC0 : Cs W0 w.heap.size [.string p, .int .i64 pb] := by rw [hW0]; exact Cs.new w _ _ _
  have HAW := Lib.hid (awake13_any W0 (hL.below hB0 (Nat.le_refl _)))
  have HTR := Lib.hid (fun (wx : World) h => trigger13_any 0 (by omega) A n c zs six bits (by omega) wx h hz hn)
  have HPX := Lib.hid (fun (wx : World) h => prefix_any p pb wx (by omega) h)
  have HMAY := Lib.hid (fun (wx : World) => pmay_any p pb wx (by omega))
  have HSA := Lib.hid SA.sl
  have HL0 := Lib.hid hL
  have HB0 := Lib.hid hB0
  have HC0 := Lib.hid hC0
  have HW0 := Lib.hid hW0
  clear hn hz hbb hW0 hB0 hC0 hL SA hl hw hc hbi hp hpb
  go_enter Tryd.func3, Tryd.ntmps3
  go_wp2_with (go_at_call 14; rw [← HW0.out]; refine HAW.out.mono ?_; rintro e w1 ⟨rfl, hb1⟩; refine Hid.out ?_)
  refine Lib.hid ?_
  have HB1 := Lib.hid (HB0.out.trans (hb1.mono HB0.out.size))
  have HC1 := Lib.hid (HC0.out.below hb1)
  clear hb1 HB0 HC0 HAW
  go_wp2_with (go_at_call 15; refine (HTR.out _ ((HSA.out.below HB1.out).more HB1.out.size)).mono ?_; rintro e w2 ⟨t, rfl, hok, hb2⟩; refine Hid.out ?_)
  refine Lib.hid ?_
  obtain ⟨hm, -⟩ := hok.pfx (by omega)
  have hsm := hok.small
  obtain ⟨tk, TN, TA, tb, hsh, htt⟩ := trigA_shape t
  rw [hsh]
  rw [htt] at hm hsm
  simp only [toT, Array.length_toList] at hm hsm
  have hTA : TA.size ≤ 16 := hsm.2
  have HM := Lib.hid hm
  have HB2 := Lib.hid (HB1.out.trans (hb2.mono HB1.out.size))
  have HC2 := Lib.hid (HC1.out.below hb2)
  have hC9 := Cs.new w2 #[.string TA, .int .i64 tb] 24 _
  have hB3 := HB2.out.alloc HB2.out.size (.cells #[.string TA, .int .i64 tb] 24)
  have HL3 := Lib.hid (HL0.out.below hB3 (Nat.le_refl _))
  have HC9 := Lib.hid hC9
  have HB3 := Lib.hid hB3
  have HC3 := Lib.hid (HC2.out.alloc (.cells #[.string TA, .int .i64 tb] 24))
  clear hm hsm hb2 hC9 hB3 hok hsh htt HC1 HB1 HC2
  have HPT := Lib.hid (fun (wx : World) h => prefix_any TA tb wx (by omega) h)
  have hfp := fun w => field_pfx tk TN TA tb w
  go_upto_region 4 with fail
  generalize w2.alloc (.cells #[.string TA, .int .i64 tb] 24) = W3 at HL3 HC9 HB3 HC3 ⊢
  generalize w2.heap.size = P9 at HC9 ⊢
  have c0 := HC9.out.get 0 (.string TA)
  have c1 := HC9.out.get 1 (.int .i64 tb)
  go_wp2_with (go_at_call 16; refine (HPT.out _ HL3.out).mono ?_; rintro e w4 ⟨v4, rfl, hb4⟩; refine Hid.out ?_)
  refine Lib.hid ?_
  have h9l : (prefixR TA.data.toList tb).length ≤ 9 := prefixR_len _ _
  have hadr := addr_prefix HM.out
  obtain ⟨L, hL⟩ : ∃ L, L = prefixR TA.data.toList tb := ⟨_, rfl⟩
  have hLs : ∀ x ∈ L, x.length ≤ 4 := fun x hx => (prefix_labels x (by rw [← hL]; exact hx)).2
  have hlab := fun w => labels13_any TA tb HM.out w
  rw [← hL] at hb4 h9l hadr hlab
  obtain ⟨A4, c4, rfl, hd1, hd2, hd3⟩ := hb4.slice
  have hsl := hb4.sl
  have hadd := fun h => address13_any A4 L.length c4 (L.map baL) w4 (by rw [baL_strings]; exact hsl) hd1 (by
    intro t ht
    obtain ⟨x, hx, rfl⟩ := List.mem_map.1 ht
    rw [show (baL x).size = x.length by simp [baL, ByteArray.size]]
    have := hLs x hx; omega) (by unfold maxLen; omega) h
  rw [bytesOf_baL, hadr] at hadd
  have hadd : LaidT w4 → Calls Tryd.prog 17 #[.slice A4 L.length c4] w4 fun e w' => e = .returned (.tuple #[.agg #[.string TA, .int .i64 tb], .bool true]) ∧ Below w4.heap.size w4 w' := by
    intro h
    have := hadd h
    rw [show addrV (some (TA.data.toList, tb)) = .tuple #[.agg #[.string TA, .int .i64 tb], .bool true] by show Value.tuple #[.agg #[sv TA.data.toList, _], _] = _; rw [sv_bytes]] at this
    exact this
  have HADD := Lib.hid hadd
  have HLAB := Lib.hid hlab
  have HSL := Lib.hid hsl
  have HL4 := Lib.hid (HL3.out.below hb4.bel (Nat.le_refl _))
  have HB4 := Lib.hid (HB3.out.trans (hb4.bel.mono HB3.out.size))
  have HC94 := Lib.hid (HC9.out.below hb4.bel)
  have HC04 := Lib.hid (HC3.out.below hb4.bel)
  obtain ⟨q, hq⟩ : ∃ q, q = L.length := ⟨_, rfl⟩
  rw [← hq] at h9l HADD HSL ⊢
  have HQ := Lib.hid hq
  clear c0 c1 hb4 hadr hLs hlab hsl hadd hL hq HC9 HC3 HB3 HL3 hd3
  go_wp2_with (go_at_call 17; refine (HADD.out HL4.out).mono ?_; rintro e w5 ⟨rfl, hb5⟩; refine Hid.out ?_)
  refine Lib.hid ?_
  have hC9' := HC94.out.below hb5
  have hC0' := HC04.out.below hb5
  have hB5 := HB4.out.trans (hb5.mono HB4.out.size)
  have hB6 := hB5.alloc hB5.size (.cells #[.string TA, .int .i64 tb] 24)
  have hC11 := Cs.new w5 #[.string TA, .int .i64 tb] 24 _
  have HB6 := Lib.hid hB6
  have HC11 := Lib.hid hC11
  have HC9 := Lib.hid (hC9'.alloc (.cells #[.string TA, .int .i64 tb] 24))
  have HC0 := Lib.hid (hC0'.alloc (.cells #[.string TA, .int .i64 tb] 24))
  have hb56 := hb5.trans (((Below.refl w5.heap.size w5).alloc (Nat.le_refl _) (.cells #[.string TA, .int .i64 tb] 24)).mono hb5.size)
  have HSL6 := Lib.hid ((HSL.out.below hb56).more hb56.size)
  clear hb56
  clear hC9' hC0' hB5 hB6 hC11 hb5 HC94 HC04 HB4 HSL HL4 HADD
  go_upto_region 6 with fail
  generalize w5.alloc (.cells #[.string TA, .int .i64 tb] 24) = W6 at HB6 HC11 HC9 HC0 HSL6 ⊢
  generalize w5.heap.size = P11 at HC11 ⊢
  have c0 := HC9.out.get 0 (.string TA)
  have c1 := HC9.out.get 1 (.int .i64 tb)
  go_wp2_with (go_at_call 19; refine (HLAB.out _).mono ?_; rintro e w7 ⟨v7, rfl, hb7⟩; refine Hid.out ?_)
  refine Lib.hid ?_
  rw [← HQ.out] at hb7
  obtain ⟨A7, c7, rfl, hd1, hd2, hd3⟩ := hb7.slice
  have hsame := same13_any A4 A7 q c4 q c7 (L.map baL) (L.map baL) w7 (by rw [baL_strings]; exact HSL6.out.below hb7.bel) (by rw [baL_strings]; exact hb7.sl) (by unfold maxLen; omega) (by unfold maxLen; omega)
  rw [decide_eq_true rfl] at hsame
  have HSAME := Lib.hid hsame
  have HB7 := Lib.hid (HB6.out.trans (hb7.bel.mono HB6.out.size))
  have HC97 := Lib.hid (HC9.out.below hb7.bel)
  have HC07 := Lib.hid (HC0.out.below hb7.bel)
  have HC117 := Lib.hid (HC11.out.below hb7.bel)
  clear c0 c1 hsame hb7 hd3 HC9 HC0 HC11 HB6 HSL6 HLAB
  have hpq := fun w => pfx_neq TA TA tb tb w
  simp only [beq_self_eq_true, Bool.and_self, Bool.not_true] at hpq
  have c0 := HC97.out.get 0 (.string TA)
  have c1 := HC97.out.get 1 (.int .i64 tb)
  have d0 := HC117.out.get 0 (.string TA)
  have d1 := HC117.out.get 1 (.int .i64 tb)
  have hmay := HMAY.out
  have hpp := HPX.out
  rw [hasB_mayP] at hmay
  cases hmp : mayP p.data.toList pb with
  | true =>
    rw [hmp] at hmay
    have HMAY2 := Lib.hid hmay
    clear hmay hpp HMAY HPX hmp
    go_wp2_with (go_at_call 18; refine HSAME.out.mono ?_; rintro e w8 ⟨rfl, k8, rfl⟩; refine Hid.out ?_)
    refine Lib.hid ?_
    have e0 := HC07.out.get 0 (.string p)
    have e1 := HC07.out.get 1 (.int .i64 pb)
    go_wp2_with (go_at_call 20; refine (HMAY2.out _).mono ?_; rintro e w9 ⟨rfl, hb9⟩)
    go_ret
    exact ⟨rfl, HB7.out.trans (((drewN_below w7 k8).trans hb9).mono HB7.out.size)⟩
  | false =>
    rw [hmp] at hmay
    have hr : prefixR p.data.toList pb = [] := by unfold prefixR; rw [hmp]; rfl
    rw [hr] at hpp
    have HMAY2 := Lib.hid hmay
    have HPX2 := Lib.hid hpp
    clear hmay hpp HMAY HPX hmp hr
    go_wp2_with (go_at_call 18; refine HSAME.out.mono ?_; rintro e w8 ⟨rfl, k8, rfl⟩; refine Hid.out ?_)
    refine Lib.hid ?_
    have e0 := HC07.out.get 0 (.string p)
    have e1 := HC07.out.get 1 (.int .i64 pb)
    have HB8 := Lib.hid (HB7.out.trans ((drewN_below w7 k8).mono HB7.out.size))
    go_wp2_with (go_at_call 20; refine (HMAY2.out _).mono ?_; rintro e w9 ⟨rfl, hb9⟩; refine Hid.out ?_)
    refine Lib.hid ?_
    have HB9 := Lib.hid (HB8.out.trans (hb9.mono HB8.out.size))
    have HL9 := Lib.hid (HL0.out.below HB9.out (Nat.le_refl _))
    have hC9 := (HC07.out.drewN k8).below hb9
    clear e0 e1 c0 c1 d0 d1
    have e0 := hC9.get 0 (.string p)
    have e1 := hC9.get 1 (.int .i64 pb)
    clear hC9 hb9
    go_wp2_with (go_at_call 16; refine (HPX2.out _ HL9.out).mono ?_; rintro e w10 ⟨v10, rfl, hb10⟩; refine Hid.out ?_)
    refine Lib.hid ?_
    obtain ⟨A10, c10, rfl, -, -, -⟩ := hb10.slice
    have HB10 := Lib.hid (HB9.out.trans (hb10.bel.mono HB9.out.size))
    clear hb10
    go_wp2_with fail
    go_ret
    exact ⟨rfl, HB10.out⟩
end
end Go.Proofs.YtodpaejakgjblaaDoor
