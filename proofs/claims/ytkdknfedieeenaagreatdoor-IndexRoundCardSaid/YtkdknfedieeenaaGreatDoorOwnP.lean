/- Prefixes as labels: numerals, runs of zeros, what is read of labels. It speaks of no program. -/
import Derived.Test.YtkdknfedieeenaaGreatDoorBase
import Derived.Lib.ParseIntB
import Derived.Lib.AtoiAll
namespace Go.Proofs.YtkdknfedieeenaaGreatDoor
set_option linter.unusedVariables false

/-- A digit by a small letter. -/
def dig (k : Nat) : UInt8 := UInt8.ofNat (if k < 10 then 48 + k else 87 + k)
/-- A numeral in a base, of at most f + 1 digits. -/
def digsF : Nat → Nat → Nat → List UInt8
  | 0, _, n => [dig n]
  | f + 1, b, n => if n < b then [dig n] else digsF f b (n / b) ++ [dig (n % b)]
def dec (n : Nat) : List UInt8 := digsF 2 10 n
def hex (n : Nat) : List UInt8 := digsF 3 16 n
/-- 'zz'. -/
def zz : List UInt8 := [122, 122]

/-- What a sign stands for as a digit. -/
def dval (c : UInt8) : Option Nat :=
  if 48 ≤ c.toNat ∧ c.toNat ≤ 57 then some (c.toNat - 48)
  else if 97 ≤ (c ||| 32).toNat ∧ (c ||| 32).toNat ≤ 122 then some ((c ||| 32).toNat - 87) else none
/-- ParseUint at base 16, behind its test for the empty string. -/
def puM (M acc : Nat) : List UInt8 → Lib.NumEnd Nat
  | [] => .ok acc
  | c :: r => match dval c with
    | none => .syntax
    | some d => if 16 ≤ d then .syntax else if M < acc * 16 + d then .range else puM M (acc * 16 + d) r
def pu16 (l : List UInt8) : Lib.NumEnd Nat := if l = [] then .syntax else puM 65535 0 l
def pu10 (l : List UInt8) : Lib.NumEnd Nat := Lib.parseUintB 8 l
/-- The number that comes with an end. -/
def endNum (M : Nat) : Lib.NumEnd Nat → Nat
  | .ok n => n
  | .syntax => 0
  | .range => M
def val16 (l : List UInt8) : Nat := endNum 65535 (pu16 l)
def val8 (l : List UInt8) : Nat := endNum 255 (pu10 l)

theorem dval_dig : ∀ d : Fin 16, dval (dig d.val) = some d.val := by decide +kernel
theorem puM_snoc (M : Nat) (d : Nat) (hd : d < 16) : ∀ (l : List UInt8) (acc : Nat), puM M acc (l ++ [dig d]) = match puM M acc l with
    | .ok a => if M < a * 16 + d then .range else .ok (a * 16 + d)
    | e => e
  | [], acc => by
    have := dval_dig ⟨d, hd⟩
    simp only at this
    simp only [List.nil_append, puM, this]
    rw [if_neg (by omega)]
  | c :: r, acc => by
    simp only [List.cons_append, puM]
    cases dval c with
    | none => rfl
    | some e =>
      simp only
      split
      · rfl
      · split
        · rfl
        · exact puM_snoc M d hd r _
theorem puM_digs (M : Nat) : ∀ (f n : Nat), n < 16 ^ (f + 1) → n ≤ M → puM M 0 (digsF f 16 n) = .ok n
  | 0, n, h, hM => by
    have := puM_snoc M n (by simpa using h) [] 0
    rw [List.nil_append] at this
    rw [digsF, this]
    simp only [puM]
    rw [if_neg (by omega)]
    simp
  | f + 1, n, h, hM => by
    rw [digsF]
    split
    · rename_i hn
      have := puM_snoc M n hn [] 0
      rw [List.nil_append] at this
      rw [this]
      simp only [puM]
      rw [if_neg (by omega)]
      simp
    · have hlt : n / 16 < 16 ^ (f + 1) := Nat.div_lt_of_lt_mul (by rw [Nat.mul_comm]; rw [Nat.pow_succ] at h; exact h)
      rw [puM_snoc M (n % 16) (by omega), puM_digs M f (n / 16) hlt (by omega)]
      simp only
      rw [if_neg (by omega), show n / 16 * 16 + n % 16 = n by omega]
theorem digsF_ne (f b n : Nat) : digsF f b n ≠ [] := by
  cases f with
  | zero => simp [digsF]
  | succ f => rw [digsF]; split <;> simp
theorem pu16_hex {n : Nat} (h : n < 65536) : pu16 (hex n) = .ok n := by
  unfold pu16
  rw [if_neg (show hex n ≠ [] from digsF_ne 3 16 n)]
  exact puM_digs 65535 3 n (by omega) (by omega)
theorem val16_hex {n : Nat} (h : n < 65536) : val16 (hex n) = n := by unfold val16; rw [pu16_hex h]; rfl
theorem hex_zz {n : Nat} (h : n < 65536) : hex n ≠ zz := by
  intro e
  have := pu16_hex h
  rw [e] at this
  revert this
  have : pu16 zz = .syntax := by decide +kernel
  rw [this]
  intro h; cases h
theorem pu10_dec' : ∀ n : Fin 256, pu10 (dec n.val) = .ok n.val := by decide +kernel
theorem val8_dec {n : Nat} (h : n < 256) : val8 (dec n) = n := by
  have := pu10_dec' ⟨n, h⟩
  simp only at this
  unfold val8; rw [this]; rfl
theorem dec_zz' : ∀ n : Fin 256, dec n.val ≠ zz := by decide +kernel
theorem dec_zz {n : Nat} (h : n < 256) : dec n ≠ zz := dec_zz' ⟨n, h⟩
theorem atoi_dec' : ∀ n : Fin 256, Lib.atoiAll (dec n.val) = .ok (n.val : Int) := by decide +kernel
theorem atoi_dec {n : Nat} (h : n < 256) : Lib.atoiAll (dec n) = .ok (n : Int) := atoi_dec' ⟨n, h⟩

/-- Where the zeros from a place on end. -/
def stop (z : List Bool) (i : Nat) : Nat := i + ((z.drop i).takeWhile id).length
def runStep (z : List Bool) (be : Nat × Nat) (i : Nat) : Nat × Nat := if 2 ≤ stop z i - i ∧ be.2 - be.1 < stop z i - i then (i, stop z i) else be
/-- The first of the longest runs. -/
def runP (z : List Bool) : Nat × Nat := (List.range 8).foldl (runStep z) (0, 0)
/-- What stands at a word's place: its own numeral, 'zz', or nothing. -/
def idx1 (be : Nat × Nat) (i : Nat) : List (Option Nat) := if i < be.1 ∨ be.2 ≤ i then [some i] else if i = be.1 then [none] else []
def idxN (be : Nat × Nat) (n : Nat) : List (Option Nat) := (List.range n).flatMap (idx1 be)
def idxP (z : List Bool) : List (Option Nat) := idxN (runP z) 8
/-- The other way: from behind. -/
def runStepS (z : List Bool) (fm : Int × Nat) (k : Nat) : Int × Nat := if max 2 fm.2 ≤ stop z k - k then ((k : Int), stop z k - k) else fm
def runS (z : List Bool) : Int × Nat := [7, 6, 5, 4, 3, 2, 1, 0].foldl (runStepS z) (-1, 1)
def idxS1 (fm : Int × Nat) (k : Nat) : List (Option Nat) := if 0 ≤ fm.1 ∧ (k : Int) = fm.1 then [none] else if 0 ≤ fm.1 ∧ fm.1 < k ∧ (k : Int) < fm.1 + fm.2 then [] else [some k]
def idxS (z : List Bool) : List (Option Nat) := [7, 6, 5, 4, 3, 2, 1, 0].flatMap (idxS1 (runS z))

theorem all_b8 {P : List Bool → Prop} (h : ∀ b0 b1 b2 b3 b4 b5 b6 b7, P [b0, b1, b2, b3, b4, b5, b6, b7]) (z : List Bool) (hz : z.length = 8) : P z := by
  match z, hz with
  | [b0, b1, b2, b3, b4, b5, b6, b7], _ => exact h b0 b1 b2 b3 b4 b5 b6 b7
theorem idxS_idxP (z : List Bool) (hz : z.length = 8) : idxS z = (idxP z).reverse := by
  revert hz; revert z
  apply all_b8
  decide +kernel
def expand (z : List Bool) : List (Option Nat) := (idxP z).flatMap fun o => match o with
  | some k => [some k]
  | none => List.replicate (9 - (idxP z).length) none
def okAt (z : List Bool) (L : List (Option Nat)) (i : Nat) : Bool := match L[i]? with
  | some (some k) => k == i
  | some none => z[i]? == some true
  | none => false
theorem expand_ok (z : List Bool) (hz : z.length = 8) : (expand z).length = 8 ∧ (List.range 8).all (okAt z (expand z)) = true ∧ 1 ≤ (idxP z).length ∧ (idxP z).length ≤ 8 ∧ ((idxP z).length = 4 → none ∈ idxP z) ∧ (idxP z).all (fun o => match o with | some k => decide (k < 8) | none => true) = true := by
  revert hz; revert z
  apply all_b8
  decide +kernel

def wordsL : List UInt8 → List Nat
  | a :: b :: r => (a.toNat * 256 + b.toNat) :: wordsL r
  | _ => []
def unword (n : Nat) : List UInt8 := [UInt8.ofNat (n / 256), UInt8.ofNat n]
theorem u8_div (a b : UInt8) : unword (a.toNat * 256 + b.toNat) = [a, b] := by
  have ha := a.toNat_lt
  have hb := b.toNat_lt
  unfold unword
  rw [show (a.toNat * 256 + b.toNat) / 256 = a.toNat by omega]
  congr 1
  · simp
  · congr 1
    apply UInt8.toNat_inj.1
    simp
theorem wordsL_un : ∀ (n : Nat) (l : List UInt8), l.length = 2 * n → (wordsL l).flatMap unword = l ∧ (wordsL l).length = n
  | 0, l, h => by
    obtain rfl : l = [] := List.eq_nil_of_length_eq_zero (by omega)
    exact ⟨rfl, rfl⟩
  | n + 1, a :: b :: r, h => by
    obtain ⟨h1, h2⟩ := wordsL_un n r (by simp at h; omega)
    simp only [wordsL, List.flatMap_cons, u8_div, h1, List.length_cons, h2]
    exact ⟨rfl, trivial⟩
theorem wordsL_lt : ∀ (l : List UInt8), ∀ x ∈ wordsL l, x < 65536
  | [], _, h => by simp [wordsL] at h
  | [_], _, h => by simp [wordsL] at h
  | a :: b :: r, x, h => by
    have ha := a.toNat_lt
    have hb := b.toNat_lt
    simp only [wordsL, List.mem_cons] at h
    rcases h with rfl | h
    · omega
    · exact wordsL_lt r x h

def lab (ws : List Nat) : Option Nat → List UInt8
  | some k => hex (ws.getD k 0)
  | none => zz
def body6 (ws : List Nat) : List (List UInt8) := (idxP (ws.map (· == 0))).map (lab ws)
def body (a : List UInt8) : List (List UInt8) := if a.length = 16 then body6 (wordsL a) else a.map fun c => dec c.toNat
/-- A prefix's labels. -/
def prefixL (a : List UInt8) (n : Nat) : List (List UInt8) := dec n :: (body a).reverse
def wordBytesR (parts : List (List UInt8)) : List UInt8 := parts.flatMap fun s => if s = zz then List.replicate (2 * (9 - parts.length)) 0 else unword (val16 s)
def plainBytesR (parts : List (List UInt8)) : List UInt8 := parts.map fun s => UInt8.ofNat (val8 s)
/-- The bytes that labels are read as, in their order. -/
def candA (parts : List (List UInt8)) : List UInt8 := if parts.length = 4 ∧ zz ∉ parts then plainBytesR parts else wordBytesR parts

theorem candA_four (a : List UInt8) (h : a.length = 4) : candA (body a) = a := by
  unfold body
  rw [if_neg (by omega)]
  unfold candA
  rw [if_pos ⟨by simpa using h, by
    intro hm
    obtain ⟨c, _, e⟩ := List.mem_map.1 hm
    exact dec_zz c.toNat_lt e⟩]
  unfold plainBytesR
  rw [List.map_map]
  conv => rhs; rw [← List.map_id a]
  apply List.map_congr_left
  intro c _
  simp [val8_dec c.toNat_lt]
theorem flat_repl (n : Nat) (g : Option Nat → List UInt8) : (List.replicate n (none : Option Nat)).flatMap g = (List.replicate n (g none)).flatten := by
  induction n with
  | zero => rfl
  | succ n ih => simp [List.replicate_succ, ih]
theorem flat_zeros (n : Nat) : (List.replicate n [(0 : UInt8), 0]).flatten = List.replicate (2 * n) 0 := by
  induction n with
  | zero => rfl
  | succ n ih => rw [List.replicate_succ, List.flatten_cons, ih, show 2 * (n + 1) = 2 + 2 * n by omega, ← List.replicate_append_replicate]; rfl
theorem body6_length (ws : List Nat) (h : ws.length = 8) : 1 ≤ (body6 ws).length ∧ (body6 ws).length ≤ 8 := by
  have := expand_ok (ws.map (· == 0)) (by simpa using h)
  unfold body6
  rw [List.length_map]
  exact ⟨this.2.2.1, this.2.2.2.1⟩
theorem candA_six (ws : List Nat) (h : ws.length = 8) (hlt : ∀ x ∈ ws, x < 65536) : candA (body6 ws) = ws.flatMap unword := by
  obtain ⟨e1, e2, e3, e4, e5, e6⟩ := expand_ok (ws.map (· == 0)) (by simpa using h)
  have hget : ∀ k, ws.getD k 0 < 65536 := by
    intro k
    rw [List.getD_eq_getElem?_getD]
    rcases Nat.lt_or_ge k ws.length with hk | hk
    · rw [List.getElem?_eq_getElem hk]; exact hlt _ (List.getElem_mem hk)
    · rw [List.getElem?_eq_none hk]; simp
  have hno : ¬ ((body6 ws).length = 4 ∧ zz ∉ body6 ws) := by
    rintro ⟨h4, hz⟩
    unfold body6 at h4 hz
    rw [List.length_map] at h4
    exact hz (List.mem_map.2 ⟨none, e5 h4, rfl⟩)
  unfold candA
  rw [if_neg hno]
  unfold wordBytesR
  have hlen : (body6 ws).length = (idxP (ws.map (· == 0))).length := by unfold body6; rw [List.length_map]
  rw [hlen]
  unfold body6
  rw [List.flatMap_map]
  -- what stands for each
  let g : Option Nat → List UInt8 := fun o => match o with
    | some k => unword (ws.getD k 0)
    | none => [0, 0]
  have hstep : ∀ o : Option Nat, (if lab ws o = zz then List.replicate (2 * (9 - (idxP (ws.map (· == 0))).length)) 0 else unword (val16 (lab ws o))) = (match o with | some k => [some k] | none => List.replicate (9 - (idxP (ws.map (· == 0))).length) none).flatMap g := by
    intro o
    cases o with
    | none =>
      rw [if_pos (show lab ws none = zz from rfl)]
      show _ = (List.replicate (9 - (idxP (ws.map (· == 0))).length) none).flatMap g
      rw [flat_repl]
      exact (flat_zeros _).symm
    | some k =>
      rw [if_neg (show lab ws (some k) ≠ zz from hex_zz (hget k)), show val16 (lab ws (some k)) = ws.getD k 0 from val16_hex (hget k)]
      simp [g]
  have hcong : (idxP (ws.map (· == 0))).flatMap (fun o => if lab ws o = zz then List.replicate (2 * (9 - (idxP (ws.map (· == 0))).length)) 0 else unword (val16 (lab ws o))) = (expand (ws.map (· == 0))).flatMap g := by
    unfold expand
    rw [List.flatMap_assoc]
    congr 1
    funext o
    exact hstep o
  refine hcong.trans ?_
  generalize expand (ws.map (· == 0)) = L at e1 e2
  have hall : ∀ i, i < 8 → (L.getD i none) = some i ∨ (L.getD i none = none ∧ ws.getD i 0 = 0) := by
    intro i hi
    have := List.all_eq_true.1 e2 i (List.mem_range.2 hi)
    unfold okAt at this
    rw [List.getD_eq_getElem?_getD]
    cases hL : L[i]? with
    | none => rw [hL] at this; cases this
    | some o =>
      rw [hL] at this
      cases o with
      | some k => simp at this; left; simp [this]
      | none =>
        right
        refine ⟨rfl, ?_⟩
        simp only [List.getElem?_map, beq_iff_eq] at this
        rw [List.getD_eq_getElem?_getD]
        cases hw : ws[i]? with
        | none => simp
        | some x => rw [hw] at this; simpa using this
  match L, e1 with
  | [o0, o1, o2, o3, o4, o5, o6, o7], _ =>
    have hws : ws = [ws.getD 0 0, ws.getD 1 0, ws.getD 2 0, ws.getD 3 0, ws.getD 4 0, ws.getD 5 0, ws.getD 6 0, ws.getD 7 0] := by
      clear hall e2 hcong hstep hno hlen hget e3 e4 e5 e6 hlt
      match ws, h with
      | [w0, w1, w2, w3, w4, w5, w6, w7], _ => rfl
    have key : ∀ (o : Option Nat) (i : Nat), (o = some i ∨ (o = none ∧ ws.getD i 0 = 0)) → g o = unword (ws.getD i 0) := by
      intro o i ho
      rcases ho with rfl | ⟨rfl, h0⟩
      · rfl
      · rw [h0]; rfl
    have h0 := hall 0 (by omega); have h1 := hall 1 (by omega); have h2 := hall 2 (by omega); have h3 := hall 3 (by omega)
    have h4 := hall 4 (by omega); have h5 := hall 5 (by omega); have h6 := hall 6 (by omega); have h7 := hall 7 (by omega)
    conv => rhs; rw [hws]
    simp only [List.flatMap_cons, List.flatMap_nil]
    rw [key o0 0 h0, key o1 1 h1, key o2 2 h2, key o3 3 h3, key o4 4 h4, key o5 5 h5, key o6 6 h6, key o7 7 h7]
theorem candA_body (a : List UInt8) (h : a.length = 4 ∨ a.length = 16) : candA (body a) = a := by
  rcases h with h | h
  · exact candA_four a h
  · obtain ⟨h1, h2⟩ := wordsL_un 8 a (by omega)
    unfold body
    rw [if_pos h, candA_six _ h2 (wordsL_lt a), h1]
theorem body_length (a : List UInt8) (h : a.length = 4 ∨ a.length = 16) : 1 ≤ (body a).length ∧ (body a).length ≤ 8 := by
  unfold body
  rcases h with h | h
  · rw [if_neg (by omega), List.length_map]; omega
  · rw [if_pos h]
    exact body6_length _ (wordsL_un 8 a (by omega)).2
/-- The labels as they are told from behind. -/
def body6S (ws : List Nat) : List (List UInt8) := (idxS (ws.map (· == 0))).map (lab ws)
theorem body6S_eq (ws : List Nat) (h : ws.length = 8) : body6S ws = (body6 ws).reverse := by
  unfold body6S body6
  rw [idxS_idxP _ (by simpa using h), List.map_reverse]
end Go.Proofs.YtkdknfedieeenaaGreatDoor
