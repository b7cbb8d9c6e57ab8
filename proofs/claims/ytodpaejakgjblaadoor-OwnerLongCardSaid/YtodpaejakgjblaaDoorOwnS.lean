/- Names from bytes, four labels. -/
import Derived.Test.YtodpaejakgjblaaDoorOwnO
import Derived.Test.YtodpaejakgjblaaDoorLawOwN
namespace Go.Proofs.YtodpaejakgjblaaDoor
open Go.RowKit
set_option linter.unusedVariables false
set_option maxRecDepth 20000

def longL : List UInt8 := [97, 98, 99, 100, 101, 102, 103, 104, 105, 106, 107, 108, 109, 110, 111, 112, 113, 114, 115, 116, 117, 118, 119, 120, 121, 122, 97, 98, 99, 100, 101, 102, 103, 104, 105, 106, 107, 108, 109, 110, 111, 112, 113, 114, 115, 116, 117, 118, 119, 120, 121, 122, 97, 98, 99, 100, 101, 102, 103, 104, 105, 106, 107]
theorem long_ok' : ∀ m : Fin 63, okLabel (longL.take (m.val + 1)) = true ∧ longL.take (m.val + 1) ≠ star ∧ kindOf (longL.take (m.val + 1)) = none := by decide +kernel
theorem long_ok {m : Nat} (h : 1 ≤ m) (h' : m ≤ 63) : okLabel (longL.take m) = true ∧ longL.take m ≠ star ∧ kindOf (longL.take m) = none := by
  have := long_ok' ⟨m - 1, by omega⟩
  simp only [show m - 1 + 1 = m by omega] at this
  exact this
def longB : ByteArray := ⟨#[97, 98, 99, 100, 101, 102, 103, 104, 105, 106, 107, 108, 109, 110, 111, 112, 113, 114, 115, 116, 117, 118, 119, 120, 121, 122, 97, 98, 99, 100, 101, 102, 103, 104, 105, 106, 107, 108, 109, 110, 111, 112, 113, 114, 115, 116, 117, 118, 119, 120, 121, 122, 97, 98, 99, 100, 101, 102, 103, 104, 105, 106, 107]⟩
theorem longB_list : longB.data.toList = longL := by decide +kernel
theorem longB_ext (m : Nat) : sv (longL.take m) = .string (longB.extract 0 m) := by
  rw [ba_extract, longB_list, List.extract_eq_take_drop]; simp
theorem longB_all : sv (longL.take 63) = .string longB := by
  rw [show longL.take 63 = longL by decide +kernel, ← longB_list, sv_bytes]
/-- Labels that may be names', none of them special. -/
structure PlainX (X : List (List UInt8)) : Prop where
  all : ∀ x ∈ X, okLabel x = true ∧ x ≠ star ∧ kindOf x = none
def preK (k : Int) : List (List UInt8) := if k = 2 ∨ k = 5 then [star] else []
def sufK (k : Int) : List (List UInt8) := if k = 4 ∨ k = 5 then [cNsname] else []
def extraK (k : Int) : Nat := (wire (preK k)).length + (wire (sufK k)).length
theorem plain_lab {k : Int} {X : List (List UInt8)} {n : List UInt8} (hn : nameLabels n = some X) (hk : k = 1 ∨ k = 2 ∨ k = 4 ∨ k = 5) : labT ⟨k, n, [], 0⟩ = preK k ++ (X ++ sufK k) := by
  rcases hk with rfl | rfl | rfl | rfl
  · show (nameLabels n).getD [] = _; rw [hn]; simp [preK, sufK]
  · show star :: (nameLabels n).getD [] = _; rw [hn]; simp [preK, sufK]
  · show (nameLabels n).getD [] ++ [cNsname] = _; rw [hn]; simp [preK, sufK]
  · show star :: ((nameLabels n).getD [] ++ [cNsname]) = _; rw [hn]; simp [preK, sufK]
theorem plain_dec {k : Int} {X : List (List UInt8)} (hX : PlainX X) (hne : X ≠ []) (hok : OkLs X) (hk : k = 1 ∨ k = 2 ∨ k = 4 ∨ k = 5) : decL (preK k ++ (X ++ sufK k)) = some ⟨k, wire X, [], 0⟩ := by
  have hmk : (makeL X).getD [] = wire X := by rw [hok.make]; rfl
  have hns : ∀ x r, X = x :: r → x ≠ star := fun x r e => (hX.all x (by rw [e]; simp)).2.1
  have hXn : ∀ e d : Int, namedR X e d = some ⟨e, wire X, [], 0⟩ := by
    intro e d
    cases X with
    | nil => exact absurd rfl hne
    | cons x r => unfold namedR; simp only [if_neg (hns x r rfl)]; rw [hmk]
  have hS : ∀ e d : Int, namedR (star :: X) e d = some ⟨d, wire X, [], 0⟩ := fun e d => by simp only [namedR]; rw [← hmk]; rfl
  have hmem : X.getLastD [] ∈ X := by
    have := last_split [] hne
    rw [this]; simp
  have hlast : kindOf (X.getLastD []) = none := (hX.all _ hmem).2.2
  rcases hk with rfl | rfl | rfl | rfl
  · show decL ([] ++ (X ++ [])) = _
    rw [List.nil_append, List.append_nil]
    unfold decL; rw [hlast]; exact hXn 1 2
  · show decL ([star] ++ (X ++ [])) = _
    rw [List.append_nil]
    unfold decL
    have e : ([star] ++ X).getLastD [] = X.getLastD [] := by
      cases X with
      | nil => exact absurd rfl hne
      | cons x r => rfl
    rw [e, hlast]; exact hS 1 2
  · show decL ([] ++ (X ++ [cNsname])) = _
    rw [List.nil_append]
    unfold decL
    rw [getLastD_snoc, show kindOf cNsname = some 4 from rfl, List.dropLast_concat]
    exact hXn 4 5
  · show decL ([star] ++ (X ++ [cNsname])) = _
    unfold decL
    rw [← List.append_assoc, getLastD_snoc, show kindOf cNsname = some 4 from rfl, List.dropLast_concat]
    exact hS 4 5
/-- A name that would be too long has none. -/
theorem long_enc {k : Int} {X : List (List UInt8)} (hX : PlainX X) (hne : X ≠ []) (hok : OkLs X) (hk : k = 1 ∨ k = 2 ∨ k = 4 ∨ k = 5) :
    ((wire X).length + extraK k ≤ 254 ∧ ∃ n, encR ⟨k, wire X, [], 0⟩ = some n ∧ n.length = (wire X).length + extraK k) ∨ (254 < (wire X).length + extraK k ∧ encR ⟨k, wire X, [], 0⟩ = none) := by
  have hl := plain_lab (k := k) hok.labels hk
  have hw : (wire (preK k ++ (X ++ sufK k))).length = (wire X).length + extraK k := by
    rw [wire_append, wire_append]; unfold extraK; simp; omega
  have hall : ∀ x ∈ preK k ++ (X ++ sufK k), okLabel x = true := by
    intro x hx
    simp only [List.mem_append] at hx
    rcases hx with hx | hx | hx
    · unfold preK at hx; split at hx
      · simp at hx; subst hx; decide
      · cases hx
    · exact (hX.all x hx).1
    · unfold sufK at hx; split at hx
      · simp at hx; subst hx; decide
      · cases hx
  rcases Nat.lt_or_ge 254 ((wire X).length + extraK k) with h | h
  · right
    refine ⟨h, ?_⟩
    have hm : makeL (labT ⟨k, wire X, [], 0⟩) = none := by
      rw [hl]
      unfold makeL
      rw [if_neg]
      rintro ⟨_, h2⟩
      have hlow : lowL (preK k ++ (X ++ sufK k)) = preK k ++ (X ++ sufK k) := by
        show (preK k ++ (X ++ sufK k)).map (fun x => x.map fold8) = _
        conv => rhs; rw [← List.map_id (preK k ++ (X ++ sufK k))]
        exact List.map_congr_left (fun x hx => ok_fold (hall x hx))
      rw [hlow, hw] at h2
      omega
    unfold encR encN
    rw [hm]
    simp [decR_nil]
  · left
    have hO : OkLs (labT ⟨k, wire X, [], 0⟩) := by rw [hl]; exact ⟨hall, by rw [hw]; exact h⟩
    refine ⟨h, wire (labT ⟨k, wire X, [], 0⟩), enc_of_dec hO ?_ ?_, by rw [hl, hw]⟩
    · rw [hl]; simp [hne]
    · rw [hl]; exact plain_dec hX hne hok hk
def kind4 (r : Nat) : Int := [1, 2, 4, 5].getD r 0
def extra4 (r : Nat) : Int := [0, 2, 12, 14].getD r 0
theorem four_ok {r : Nat} (h : r < 4) : (kind4 r = 1 ∨ kind4 r = 2 ∨ kind4 r = 4 ∨ kind4 r = 5) ∧ extra4 r = (extraK (kind4 r) : Int) := by
  have : ∀ i : Fin 4, (kind4 i.val = 1 ∨ kind4 i.val = 2 ∨ kind4 i.val = 4 ∨ kind4 i.val = 5) ∧ extra4 i.val = (extraK (kind4 i.val) : Int) := by decide +kernel
  exact this ⟨r, h⟩
theorem cell4 (w : World) (a b c d : Int) (T : TypeId) (r : Nat) (hr : r < 4) : (w.alloc (.cells #[.int .i64 a, .int .i64 b, .int .i64 c, .int .i64 d] T)).cell? ⟨w.heap.size, r, none⟩ = some (.int .i64 ([a, b, c, d].getD r 0)) := by
  have h := news_at w #[.int .i64 a, .int .i64 b, .int .i64 c, .int .i64 d] T r (.int .i64 ([a, b, c, d].getD r 0))
  rw [Addr.add_lit, Nat.zero_add] at h
  apply h
  match r, hr with
  | 0, _ => rfl
  | 1, _ => rfl
  | 2, _ => rfl
  | 3, _ => rfl

theorem long_cons {X : List (List UInt8)} (h : PlainX X) {m : Nat} (h1 : 1 ≤ m) (h2 : m ≤ 63) : PlainX (X ++ [longL.take m]) := ⟨by
  intro x hx
  simp only [List.mem_append, List.mem_cons, List.not_mem_nil, or_false] at hx
  rcases hx with hx | rfl
  · exact h.all x hx
  · exact long_ok h1 h2⟩
theorem plain_some {X : List (List UInt8)} {nm : List UInt8} (hX : PlainX X) (h : makeL X = some nm) : OkLs X ∧ nm = wire X := by
  have hlow : lowL X = X := by
    show X.map (fun x => x.map fold8) = X
    conv => rhs; rw [← List.map_id X]
    exact List.map_congr_left (fun x hx => ok_fold (hX.all x hx).1)
  unfold makeL at h
  rw [hlow] at h
  split at h
  · rename_i h2
    exact ⟨⟨fun x hx => (hX.all x hx).1, h2.2⟩, (Option.some.inj h).symm⟩
  · cases h
/-- What Encode answers for the name of one to four labels. -/
def longA (k : Int) (NB : ByteArray) (EX : Nat) : Prop :=
  ((NB.size : Int) + EX ≤ 254 ∧ ∃ NN : ByteArray, encV (encR (toT k NB ⟨#[]⟩ 0)) = .tuple #[.string NN, .bool true] ∧ (NN.size : Int) = (NB.size : Int) + EX) ∨
  (¬ (NB.size : Int) + EX ≤ 254 ∧ encV (encR (toT k NB ⟨#[]⟩ 0)) = .tuple #[.string ⟨#[]⟩, .bool false])
theorem long_ans {k : Int} {X : List (List UInt8)} {nm : List UInt8} (hX : PlainX X) (h : makeL X = some nm) (hne : X ≠ []) (hk : k = 1 ∨ k = 2 ∨ k = 4 ∨ k = 5) : longA k (baL nm) (extraK k) ∧ nm.length ≤ 254 := by
  obtain ⟨hO, rfl⟩ := plain_some hX h
  have hT : toT k (baL (wire X)) ⟨#[]⟩ 0 = ⟨k, wire X, [], 0⟩ := by simp [toT, baL]
  have hs : (baL (wire X)).size = (wire X).length := by simp [baL, ByteArray.size]
  refine ⟨?_, hO.2⟩
  unfold longA
  rw [hT, hs]
  rcases long_enc hX hne hO hk with ⟨h1, n, h2, h3⟩ | ⟨h1, h2⟩
  · refine Or.inl ⟨by omega, baL n, by rw [h2]; rfl, ?_⟩
    rw [show (baL n).size = n.length by simp [baL, ByteArray.size]]; omega
  · exact Or.inr ⟨by omega, by rw [h2]; rfl⟩
def longE (m : Nat) : ByteArray := longB.extract 0 m
theorem longE_ext (m : Nat) (h : 1 ≤ m) : longE m = longB.extract 0 (1 + ((m : Int) - 1)).toNat := by
  rw [show (1 + ((m : Int) - 1)).toNat = m by omega]; rfl
theorem long_map (X : List (List UInt8)) (m : Nat) : (X ++ [longL.take m]).map sv = X.map sv ++ [.string (longE m)] := by
  rw [List.map_append, List.map_cons, List.map_nil, longB_ext]; rfl
theorem long_map63 (X : List (List UInt8)) : (X ++ [longL.take 63]).map sv = X.map sv ++ [.string longB] := by
  rw [List.map_append, List.map_cons, List.map_nil, longB_all]
theorem long_arith {z : Int} (h0 : 0 ≤ z) (h1 : z < 256) : ∃ m : Nat, 1 ≤ m ∧ m ≤ 63 ∧ z.tmod 63 = (m : Int) - 1 ∧ wrap64 z = z ∧ wrap64 (1 + ((m : Int) - 1)) = m ∧ wrap64 ((m : Int) - 1) = (m : Int) - 1 := by
  refine ⟨(z % 63).toNat + 1, by omega, by omega, ?_, IntWalk.wrap64_in z (by omega), ?_, ?_⟩
  · rw [Int.tmod_eq_emod_of_nonneg h0]; omega
  · rw [IntWalk.wrap64_in _ (by omega)]; omega
  · rw [IntWalk.wrap64_in _ (by omega)]
end Go.Proofs.YtodpaejakgjblaaDoor
