/- A trigger by numbers (bolterlaw13.Trigger): of the kinds that have a name. -/
import Derived.Test.YtdekaaclheoapaaNameC
import Derived.Test.YtdekaaclheoapaaView
namespace Go.Proofs.Ytdekaaclheoapaa
open Go.RowKit
set_option linter.unusedVariables false

/-- The label that a byte stands for. -/
def wordT (c : UInt8) : ByteArray := match c.toNat % 5 with | 0 => ⟨#[97]⟩ | 1 => ⟨#[98]⟩ | 2 => ⟨#[119, 119, 119]⟩ | 3 => ⟨#[101, 120]⟩ | _ => ⟨#[111, 114, 103]⟩
/-- The labels of a trigger of a kind. -/
def wordsT (k : Int) (l : List UInt8) : List ByteArray := if l = [] ∧ (k = 1 ∨ k = 4) then [⟨#[97]⟩] else (l.take 5).map wordT
theorem wordT_size (c : UInt8) : (wordT c).size ≤ maxLen := by
  unfold wordT; split <;> (unfold maxLen; decide)
set_option maxHeartbeats 1600000 in
theorem trigger_name (q K : Nat) (hq : q < 256) (hK : q % 7 = K) (hk : K = 1 ∨ K = 2 ∨ K = 4 ∨ K = 5) (A : Option Addr) (n c : Nat) (l : List UInt8) (six : Bool) (bits : Int) (w : World) (hA : Sl w w.heap.size 1 A n (l.map bv)) (hn : n ≤ 140737488355328) :
    Calls Try.prog 25 #[.int .u8 q, .slice A n c, .bool six, .int .u8 bits] w fun e w' => e = .returned (.agg #[.int .i64 K, sv (nameOf (wordsT K l)), .string ⟨#[]⟩, .int .i64 0]) ∧ Below w.heap.size w w' := by
  obtain ⟨i0, hi, hz0, hz1, hz2⟩ := info_parts str_info
  have hl : l.length = n := by simpa using hA.1
  have hq7 : (q : Int) % 7 = (K : Int) := by omega
  obtain ⟨nm, hnm⟩ : ∃ nm : ByteArray, sv (nameOf (wordsT K l)) = .string nm := ⟨_, rfl⟩
  rw [hnm]
  have HNM := Lib.hid hnm
  clear hnm
  have hK0 : ((K : Int) == 0) = false := by simp; omega
  have hK3 : ((K : Int) == 3) = false := by simp; omega
  have hK6 : ((K : Int) == 6) = false := by simp; omega
  clear hK
  go_enter Try.func25, Try.ntmps25
  go_upto_region 5 with fail
  obtain ⟨W, hW⟩ : ∃ W, W = (w.alloc (.cells #[.int .i64 0, .string ⟨#[]⟩, .string ⟨#[]⟩, .int .i64 0] 51)).alloc (.cells #[.int .i64 K, .string ⟨#[]⟩, .string ⟨#[]⟩, .int .i64 0] 51) := ⟨_, rfl⟩
  rw [← hW]
  have hBW : Below w.heap.size w W := by rw [hW]; exact ((Below.refl _ _).alloc (Nat.le_refl _) _).alloc (by simp) _
  have hzW : W.heap.size = w.heap.size + 2 := by rw [hW]; simp
  have a0 : W.cell? ⟨w.heap.size, 0, none⟩ = some (.int .i64 0) := by rw [hW]; exact World.cell?_alloc2_first _ _ _ _
  have a1 : W.cell? ⟨w.heap.size, 1, none⟩ = some (.string ⟨#[]⟩) := by rw [hW]; exact World.cell?_alloc2_first _ _ _ _
  have a2 : W.cell? ⟨w.heap.size, 2, none⟩ = some (.string ⟨#[]⟩) := by rw [hW]; exact World.cell?_alloc2_first _ _ _ _
  have a3 : W.cell? ⟨w.heap.size, 3, none⟩ = some (.int .i64 0) := by rw [hW]; exact World.cell?_alloc2_first _ _ _ _
  have fa : ∀ i, W.frozen? ⟨w.heap.size, i, none⟩ = false := by
    intro i; rw [hW, World.frozen?_alloc_past _ _ _ (by simp), World.frozen?_alloc_at _ _ _ _ rfl]
  have fb : ∀ i, W.frozen? ⟨w.heap.size + 1, i, none⟩ = false := by
    intro i; rw [hW, World.frozen?_alloc_at _ _ _ _ (by simp)]
  have b0 : W.cell? ⟨w.heap.size + 1, 0, none⟩ = some (.int .i64 K) := by rw [hW]; simp
  have b1 : W.cell? ⟨w.heap.size + 1, 1, none⟩ = some (.string ⟨#[]⟩) := by rw [hW]; simp
  have b2 : W.cell? ⟨w.heap.size + 1, 2, none⟩ = some (.string ⟨#[]⟩) := by rw [hW]; simp
  have b3 : W.cell? ⟨w.heap.size + 1, 3, none⟩ = some (.int .i64 0) := by rw [hW]; simp
  have hAW := (hA.below hBW).more hBW.size
  have HZW := Lib.hid hzW
  clear hW hA hK0 hK3 hK6 hq7 hq hzW
  go_loopw [11, 13, 22] (fun v s i wr => ∃ (k m : Nat), k ≤ n ∧ Hid (m = min k 5) ∧ m ≤ 5 ∧ i = .int .i64 k ∧ Buf W.heap.size 9 W v m (((l.take k).take 5).map fun c => .string (wordT c)) wr) (fun _ _ i _ => n - (intOf i).toNat)
  case atStart => exact ⟨0, 0, Nat.zero_le _, Lib.hid rfl, by omega, rfl, Buf.start _ _⟩
  case round =>
    obtain ⟨k, m, hkn, hm, hm5, rfl, hbuf⟩ := hrel
    by_cases hlt : k < n
    · obtain ⟨g, off, u, rfl, hbb, hu, hcell⟩ := (hAW.below hbuf.below).at_ hlt
      have hkl : k < l.length := by omega
      rw [List.getElem?_map, List.getElem?_eq_getElem hkl, Option.map_some, Option.some.injEq] at hu
      subst hu
      obtain ⟨x, hx⟩ : ∃ x, (l[k]'hkl) = x := ⟨_, rfl⟩
      rw [hx] at hcell
      obtain ⟨q, hq⟩ : ∃ q, x.toNat = q := ⟨_, rfl⟩
      rw [show bv x = .int .u8 (q : Int) by rw [← hq]; rfl] at hcell
      obtain ⟨A', c', rfl, hb1, hb2, hb3⟩ := hbuf.slice
      have hnext : Hid (k < 5 → ((l.take (k + 1)).take 5).map (fun c => Value.string (wordT c)) = ((l.take k).take 5).map (fun c => Value.string (wordT c)) ++ [.string (wordT x)]) := Lib.hid (fun h5 => by
        rw [List.take_take, List.take_take, Nat.min_eq_right (by omega), Nat.min_eq_right (by omega), List.take_succ_eq_append_getElem hkl, hx, List.map_append]; rfl)
      have hstay : Hid (5 ≤ k → ((l.take (k + 1)).take 5) = ((l.take k).take 5)) := Lib.hid (fun h5 => by
        rw [List.take_take, List.take_take, Nat.min_eq_left (by omega), Nat.min_eq_left (by omega)])
      by_cases hk5 : k < 5
      · have hmk : m = k := by have := hm.out; omega
        subst hmk
        have hr : q % 5 = 0 ∨ q % 5 = 1 ∨ q % 5 = 2 ∨ q % 5 = 3 ∨ q % 5 = 4 := by omega
        have hn5 := hnext.out hk5
        have hm5' : (m : Int) < 5 := by omega
        clear hb3 hx hkl hnext hstay
        rcases hr with hr | hr | hr | hr | hr
        all_goals
          have hw : wordT x = wordT x := rfl
          conv at hw => rhs; unfold wordT; rw [hq, hr]
          simp only [] at hw
          rw [hw] at hn5
          have HN := Lib.hid hn5
          have hqi : (q : Int) % 5 = ((q % 5 : Nat) : Int) := by omega
          rw [hr] at hqi
          clear hw hn5 hq hr
          go_wp2_with (at_builtin; refine wpList_append_one rfl _ _ 74 rfl W.heap.size 9 i0 _ 16 Try.underlying74 hi hz0 hz1 hz2 rfl (hbuf.alloc _) rfl (by show Value.slice (some ⟨wr.heap.size + 1, 0, none⟩) 1 1 = _; simp) rfl ?c1 ?c2 ?_)
          case c1 => unfold maxLen; omega
          case c2 => omega
          intro v' w2 hb4
          go_wp2_with fail
          go_roundw
          case rel => exact ⟨m + 1, m + 1, by omega, Lib.hid (by omega), by omega, by go_num, by rw [HN.out]; simp only [List.map_take]; exact hb4⟩
          case measure => simp [intOf]; omega
      · have hst := hstay.out (by omega)
        have hm5' : m = 5 := by have := hm.out; omega
        subst hm5'
        clear hb3 hx hkl hnext hstay hq
        have HS := Lib.hid hst
        clear hst
        go_wp2_with fail
        go_roundw
        case rel => exact ⟨k + 1, 5, by omega, Lib.hid (by omega), by omega, by go_num, by rw [HS.out]; exact hbuf⟩
        case measure => simp [intOf]; omega
    · obtain rfl : k = n := by omega
      have hmm := hm.out
      rw [show l.take k = l from List.take_of_length_le (by omega)] at hbuf
      have hmap : (l.take 5).map (fun c => Value.string (wordT c)) = ((l.take 5).map wordT).map .string := by rw [List.map_map]; rfl
      rw [hmap] at hbuf
      have hln : ((l.take 5).map wordT).length = m := by simp; omega
      obtain ⟨A', c', rfl, hb1, hb2, hb3⟩ := hbuf.slice
      have hSl := hbuf.sl
      have hbW := hbuf.below
      have hzr := hbuf.below.size
      have hzW := HZW.out
      have hfin : ∀ (w5 : World), Below wr.heap.size wr w5 → Below W.heap.size W w5 := fun w5 hb => hbW.trans (hb.mono hzr)
      clear hbuf hi hz0 hz1 hz2 hmap hb3 hlt
      by_cases hl0 : l = []
      · subst hl0
        have hm0 : m = 0 := by simp at hln; omega
        subst hm0
        have r0 := (hbW.cell (p := ⟨w.heap.size + 1, 0, none⟩) (by show w.heap.size + 1 < W.heap.size; omega)).trans b0
        have hnm := HNM.out
        by_cases hk14 : K = 1 ∨ K = 4
        · have hws : wordsT K [] = [⟨#[97]⟩] := by unfold wordsT; rw [if_pos ⟨rfl, by omega⟩]
          rw [hws] at hnm
          have hmk := fun (w' : World) (hS : Sl w' w'.heap.size 1 (some ⟨wr.heap.size, 0, none⟩) 1 ([⟨#[97]⟩].map .string)) => make_any (some ⟨wr.heap.size, 0, none⟩) 1 1 [⟨#[97]⟩] w' hS (by intro t ht; simp at ht; subst ht; decide) (by decide)
          rw [hnm] at hmk
          obtain ⟨ok, hok⟩ : ∃ ok, (makeOf [⟨#[97]⟩]).isSome = ok := ⟨_, rfl⟩
          rw [hok] at hmk
          have HMK := Lib.hid hmk
          have hk1 : ((K : Int) == 1) = true ∨ (((K : Int) == 1) = false ∧ ((K : Int) == 4) = true) := by
            rcases hk14 with h | h
            · left; simp; omega
            · right; simp; omega
          clear hmm hl hnm hmk hok hln hSl hAW HNM hws hk14 hk
          rcases hk1 with hk1 | ⟨hk1, hk4⟩
          all_goals
            go_wp2_with fail
            refine (HMK.out _ (Sl.fresh _ _ _ _ _ rfl rfl)).mono ?_
            rintro e w5 ⟨rfl, hb5'⟩
            have hb5 := below_alloc _ (Below.refl _ _) (Nat.le_refl _) hb5'
            clear hb5'
            have hW5 := hfin w5 hb5
            have hz5 := hW5.size
            have e0 := (hW5.cell (p := ⟨w.heap.size + 1, 0, none⟩) (by show w.heap.size + 1 < W.heap.size; omega)).trans b0
            have e1 := (hW5.cell (p := ⟨w.heap.size + 1, 1, none⟩) (by show w.heap.size + 1 < W.heap.size; omega)).trans b1
            have e2 := (hW5.cell (p := ⟨w.heap.size + 1, 2, none⟩) (by show w.heap.size + 1 < W.heap.size; omega)).trans b2
            have e3 := (hW5.cell (p := ⟨w.heap.size + 1, 3, none⟩) (by show w.heap.size + 1 < W.heap.size; omega)).trans b3
            have d0 := (hW5.cell (p := ⟨w.heap.size, 0, none⟩) (by show w.heap.size < W.heap.size; omega)).trans a0
            have d1 := (hW5.cell (p := ⟨w.heap.size, 1, none⟩) (by show w.heap.size < W.heap.size; omega)).trans a1
            have d2 := (hW5.cell (p := ⟨w.heap.size, 2, none⟩) (by show w.heap.size < W.heap.size; omega)).trans a2
            have d3 := (hW5.cell (p := ⟨w.heap.size, 3, none⟩) (by show w.heap.size < W.heap.size; omega)).trans a3
            have fd : ∀ i, w5.frozen? ⟨w.heap.size, i, none⟩ = false := fun i => (hW5.frozen (p := ⟨w.heap.size, i, none⟩) (by show w.heap.size < W.heap.size; omega)).trans (fa i)
            have fe : ∀ i, w5.frozen? ⟨w.heap.size + 1, i, none⟩ = false := fun i => (hW5.frozen (p := ⟨w.heap.size + 1, i, none⟩) (by show w.heap.size + 1 < W.heap.size; omega)).trans (fb i)
            have hwfin := hBW.trans (hW5.mono hBW.size)
            clear hW5 hBW hbW hfin a0 a1 a2 a3 fa fb b0 b1 b2 b3 hb5 HMK hzW
            go_wp2_with fail
            refine bodyPost_ret (v := .agg #[.int .i64 K, .string nm, .string ⟨#[]⟩, .int .i64 0]) (by simp [results, Try.results25, go_sem, d0, d1, d2, d3]) rfl ⟨rfl, ?_⟩
            repeat (first | exact hwfin | refine Below.setCell ?_ (by simp) _)
        · have hws : wordsT K [] = [] := by unfold wordsT; rw [if_neg (by omega)]; rfl
          rw [hws] at hnm
          have hmk := make_any A' 0 c' [] wr hSl (by intro t ht; cases ht) (by decide)
          rw [hnm] at hmk
          obtain ⟨ok, hok⟩ : ∃ ok, (makeOf []).isSome = ok := ⟨_, rfl⟩
          rw [hok] at hmk
          have HMK := Lib.hid hmk
          have hk1 : ((K : Int) == 1) = false := by simp; omega
          have hk4 : ((K : Int) == 4) = false := by simp; omega
          clear hmm hl hnm hmk hok hln hSl hAW HNM hws hk14 hk
          go_wp2_with fail
          refine HMK.out.mono ?_
          rintro e w5 ⟨rfl, hb5⟩
          have hW5 := hfin w5 hb5
          have hz5 := hW5.size
          have e0 := (hW5.cell (p := ⟨w.heap.size + 1, 0, none⟩) (by show w.heap.size + 1 < W.heap.size; omega)).trans b0
          have e1 := (hW5.cell (p := ⟨w.heap.size + 1, 1, none⟩) (by show w.heap.size + 1 < W.heap.size; omega)).trans b1
          have e2 := (hW5.cell (p := ⟨w.heap.size + 1, 2, none⟩) (by show w.heap.size + 1 < W.heap.size; omega)).trans b2
          have e3 := (hW5.cell (p := ⟨w.heap.size + 1, 3, none⟩) (by show w.heap.size + 1 < W.heap.size; omega)).trans b3
          have d0 := (hW5.cell (p := ⟨w.heap.size, 0, none⟩) (by show w.heap.size < W.heap.size; omega)).trans a0
          have d1 := (hW5.cell (p := ⟨w.heap.size, 1, none⟩) (by show w.heap.size < W.heap.size; omega)).trans a1
          have d2 := (hW5.cell (p := ⟨w.heap.size, 2, none⟩) (by show w.heap.size < W.heap.size; omega)).trans a2
          have d3 := (hW5.cell (p := ⟨w.heap.size, 3, none⟩) (by show w.heap.size < W.heap.size; omega)).trans a3
          have fd : ∀ i, w5.frozen? ⟨w.heap.size, i, none⟩ = false := fun i => (hW5.frozen (p := ⟨w.heap.size, i, none⟩) (by show w.heap.size < W.heap.size; omega)).trans (fa i)
          have fe : ∀ i, w5.frozen? ⟨w.heap.size + 1, i, none⟩ = false := fun i => (hW5.frozen (p := ⟨w.heap.size + 1, i, none⟩) (by show w.heap.size + 1 < W.heap.size; omega)).trans (fb i)
          have hwfin := hBW.trans (hW5.mono hBW.size)
          clear hW5 hBW hbW hfin a0 a1 a2 a3 fa fb b0 b1 b2 b3 hb5 HMK hzW
          go_wp2_with fail
          refine bodyPost_ret (v := .agg #[.int .i64 K, .string nm, .string ⟨#[]⟩, .int .i64 0]) (by simp [results, Try.results25, go_sem, d0, d1, d2, d3]) rfl ⟨rfl, ?_⟩
          repeat (first | exact hwfin | refine Below.setCell ?_ (by simp) _)
      · have hm0 : ((m : Int) == 0) = false := by
          have : 0 < l.length := List.length_pos_iff.2 hl0
          simp; omega
        have hws : wordsT K l = (l.take 5).map wordT := by unfold wordsT; rw [if_neg (fun h => hl0 h.1)]
        have hnm := HNM.out
        rw [hws] at hnm
        have hsz : ∀ t ∈ (l.take 5).map wordT, t.size ≤ maxLen := by
          intro t ht; obtain ⟨x, _, rfl⟩ := List.mem_map.1 ht; exact wordT_size x
        have hmk := make_any A' m c' _ wr hSl hsz (by unfold maxLen; omega)
        rw [hnm] at hmk
        obtain ⟨ok, hok⟩ : ∃ ok, (makeOf ((l.take 5).map wordT)).isSome = ok := ⟨_, rfl⟩
        rw [hok] at hmk
        have HMK := Lib.hid hmk
        clear hws hmm hl hl0 hnm hsz hmk hok hln hSl hAW HNM
        go_wp2_with fail
        refine HMK.out.mono ?_
        rintro e w5 ⟨rfl, hb5⟩
        have hW5 := hfin w5 hb5
        have hz5 := hW5.size
        have e0 := (hW5.cell (p := ⟨w.heap.size + 1, 0, none⟩) (by show w.heap.size + 1 < W.heap.size; omega)).trans b0
        have e1 := (hW5.cell (p := ⟨w.heap.size + 1, 1, none⟩) (by show w.heap.size + 1 < W.heap.size; omega)).trans b1
        have e2 := (hW5.cell (p := ⟨w.heap.size + 1, 2, none⟩) (by show w.heap.size + 1 < W.heap.size; omega)).trans b2
        have e3 := (hW5.cell (p := ⟨w.heap.size + 1, 3, none⟩) (by show w.heap.size + 1 < W.heap.size; omega)).trans b3
        have d0 := (hW5.cell (p := ⟨w.heap.size, 0, none⟩) (by show w.heap.size < W.heap.size; omega)).trans a0
        have d1 := (hW5.cell (p := ⟨w.heap.size, 1, none⟩) (by show w.heap.size < W.heap.size; omega)).trans a1
        have d2 := (hW5.cell (p := ⟨w.heap.size, 2, none⟩) (by show w.heap.size < W.heap.size; omega)).trans a2
        have d3 := (hW5.cell (p := ⟨w.heap.size, 3, none⟩) (by show w.heap.size < W.heap.size; omega)).trans a3
        have fd : ∀ i, w5.frozen? ⟨w.heap.size, i, none⟩ = false := fun i => (hW5.frozen (p := ⟨w.heap.size, i, none⟩) (by show w.heap.size < W.heap.size; omega)).trans (fa i)
        have fe : ∀ i, w5.frozen? ⟨w.heap.size + 1, i, none⟩ = false := fun i => (hW5.frozen (p := ⟨w.heap.size + 1, i, none⟩) (by show w.heap.size + 1 < W.heap.size; omega)).trans (fb i)
        have hwfin := hBW.trans (hW5.mono hBW.size)
        clear hW5 hBW hbW hfin a0 a1 a2 a3 fa fb b0 b1 b2 b3 hb5 HMK hzW
        go_wp2_with fail
        refine bodyPost_ret (v := .agg #[.int .i64 K, .string nm, .string ⟨#[]⟩, .int .i64 0]) (by simp [results, Try.results25, go_sem, d0, d1, d2, d3]) rfl ⟨rfl, ?_⟩
        repeat (first | exact hwfin | refine Below.setCell ?_ (by simp) _)
end Go.Proofs.Ytdekaaclheoapaa
