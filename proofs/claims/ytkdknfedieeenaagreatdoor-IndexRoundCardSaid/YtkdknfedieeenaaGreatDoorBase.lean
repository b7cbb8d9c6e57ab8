/- Words and small lemmas on slices, bytes and worlds. They speak of no program. -/
import Derived.WalkKit
import Derived.WalkLawsBesides
import Derived.WalkSpells
import Derived.Lib.Hide
import Derived.BigQuiet
import Derived.Deep.QuietTactic
import Derived.Laws.BytesArg
import Derived.Laws.IdiomStrings
namespace Go.Proofs.YtkdknfedieeenaaGreatDoor
open Go.RowKit
set_option linter.unusedVariables false

/-- A byte as a cell. -/
def bv (b : UInt8) : Value := .int .u8 (b.toNat : Int)

/-- The slice at A of n elements of so many cells each reads as xs, and lies below block B. -/
def Sl (w : World) (B size : Nat) (A : Option Addr) (n : Nat) (xs : List Value) : Prop :=
  xs.length = n * size ∧ (0 < n → ∃ b off, A = some ⟨b, off, none⟩ ∧ b < B ∧ ∀ j u, xs[j]? = some u → w.cell? ⟨b, off + j, none⟩ = some u)

section
variable {w w' : World} {B B' size n : Nat} {A : Option Addr} {xs : List Value}
theorem Sl.nil (w : World) (B size : Nat) (A : Option Addr) : Sl w B size A 0 [] := ⟨by simp, fun h => absurd h (by omega)⟩
theorem Sl.at_ {k : Nat} (h : Sl w B 1 A n xs) (hk : k < n) : ∃ b off u, A = some ⟨b, off, none⟩ ∧ b < B ∧ xs[k]? = some u ∧ w.cell? ⟨b, off + k, none⟩ = some u := by
  obtain ⟨b, off, e, hb, hc⟩ := h.2 (by omega)
  have hl : k < xs.length := by have := h.1; omega
  exact ⟨b, off, xs[k], e, hb, List.getElem?_eq_getElem hl, hc k _ (List.getElem?_eq_getElem hl)⟩
theorem Sl.keep (h : Sl w B size A n xs) (hk : ∀ p : Addr, p.block < B → w'.cell? p = w.cell? p) : Sl w' B size A n xs :=
  ⟨h.1, fun hn => by
    obtain ⟨b, off, e, hb, hc⟩ := h.2 hn
    exact ⟨b, off, e, hb, fun j u hu => (hk _ hb).trans (hc j u hu)⟩⟩
theorem Sl.more (h : Sl w B size A n xs) (hB : B ≤ B') : Sl w B' size A n xs :=
  ⟨h.1, fun hn => by
    obtain ⟨b, off, e, hb, hc⟩ := h.2 hn
    exact ⟨b, off, e, by omega, hc⟩⟩
theorem Sl.below (h : Sl w B size A n xs) (hb : Below B w w') : Sl w' B size A n xs := h.keep fun _ hp => hb.cell hp
theorem Sl.drew (h : Sl w B size A n xs) : Sl w.drew B size A n xs := h
theorem Sl.drewN (h : Sl w B size A n xs) (k : Nat) : Sl (w.drewN k) B size A n xs := h
theorem Sl.alloc (h : Sl w B size A n xs) (hB : B ≤ w.heap.size) (o : Obj) : Sl (w.alloc o) B size A n xs := h.keep fun p hp => World.cell?_alloc_lt w o p (by omega)
theorem Sl.setCell (h : Sl w B size A n xs) {p : Addr} (hB : B ≤ p.block) (u : Value) : Sl (w.setCell p u) B size A n xs :=
  h.keep fun q hq => World.cell?_setCell_other w p q u (fun e => by subst e; omega)
theorem Sl.of_own {base : Nat} {e : TypeId} {c : Nat} (h : w.ownsRow base e size (.slice A n c) n xs) : Sl w w.heap.size size A n xs := by
  refine ⟨h.1, fun hn => ?_⟩
  rcases h.2 with ⟨hv, h0⟩ | ⟨g, cap, cur, hv, _, hgg, _⟩
  · omega
  · have hA : A = some ⟨g, 0, none⟩ := by injection hv
    subst hA
    refine ⟨g, 0, rfl, (Array.getElem?_eq_some_iff.1 hgg).1, fun j u hu => ?_⟩
    have := h.cells (g := g) rfl j u hu
    rwa [Addr.add_lit] at this
/-- The condition of the laws on append: the new cells lie where the source leads. -/
theorem Sl.cells_at (h : Sl w B size A n xs) : ∀ ad, A = some ad → ∀ j u, xs[j]? = some u → w.cell? (ad.add j) = some u := by
  intro ad had j u hu
  have hn : 0 < n := by
    rcases Nat.eq_zero_or_pos n with h0 | h0
    · have hl := h.1; rw [h0, Nat.zero_mul] at hl; have := (List.getElem?_eq_some_iff.1 hu).1; omega
    · exact h0
  obtain ⟨b, off, e, hb, hc⟩ := h.2 hn
  rw [e] at had
  obtain rfl := Option.some.inj had
  rw [Addr.add_lit]
  exact hc j u hu
end

/-- The cells of a block that was just laid. -/
theorem news_at (w : World) (cs : Array Value) (t : TypeId) : ∀ j u, cs.toList[j]? = some u → (w.alloc (.cells cs t)).cell? ((⟨w.heap.size, 0, none⟩ : Addr).add j) = some u := by
  intro j u hu
  rw [Addr.add_lit, Nat.zero_add, cell_of_row (w.alloc (.cells cs t)) w.heap.size j cs t (0, 0) (heap_alloc_new w _)]
  simpa using hu

theorem below_grown {B : Nat} {a w w' : World} {g : Nat} (h : Below B a w) (hg : w.grownBy w' (some g)) (hB : B ≤ w.heap.size) (hgB : B ≤ g) : Below B a w' :=
  h.grown hg hB (fun k hk => by injection hk with hk; omega)
theorem below_grown_none {B : Nat} {a w w' : World} (h : Below B a w) (hg : w.grownBy w' none) (hB : B ≤ w.heap.size) : Below B a w' :=
  h.grown hg hB (fun k hk => by cases hk)

theorem one_bytes (l : List UInt8) : ∀ u ∈ l.map bv, u.oneCell' = true := by
  intro u hu
  obtain ⟨_, _, rfl⟩ := List.mem_map.1 hu
  rfl
theorem one_ints (k : IntKind) (l : List Int) : ∀ u ∈ l.map (Value.int k), u.oneCell' = true := ints_oneCell k l

/-- 'string(b)' of a slice that reads as bytes, nil or not. -/
theorem run_string_of {P : Program} (w : World) (src dst e : TypeId) (B : Nat) (A : Option Addr) (n : Nat) (l : List UInt8) (hs : P.underlying src = some (.slice e)) (he : P.underlying e = some (.int .u8))
    (hd : P.underlying dst = some .string) (h : Sl w B 1 A n (l.map bv)) (hA : A = none → n = 0) (c : Nat) : (convert src dst (.slice A n c)).run P w = .ok (.string ⟨l.toArray⟩) w := by
  have hl : l.length = n := by simpa using h.1
  cases A with
  | none =>
    have h0 := hA rfl
    subst h0
    have : l = [] := List.eq_nil_of_length_eq_zero hl
    subst this
    exact run_convert_bytes_nil w src e hs he 0 c dst hd
  | some ad =>
    subst hl
    exact run_convert_bytes_back w src dst e ad c l hs he hd (fun j hj => h.cells_at ad rfl j _ (by simp [hj, bv]))
theorem run_string_own {P : Program} (w : World) (src dst e : TypeId) (base : Nat) (a : Addr) (n c : Nat) (l : List UInt8) (hs : P.underlying src = some (.slice e)) (he : P.underlying e = some (.int .u8))
    (hd : P.underlying dst = some .string) (h : w.ownsRow base e 1 (.slice (some a) n c) n (l.map bv)) : (convert src dst (.slice (some a) n c)).run P w = .ok (.string ⟨l.toArray⟩) w :=
  run_string_of w src dst e _ _ n l hs he hd (Sl.of_own h) (fun h => by cases h) c
/-- A list that is filled place by place. -/
theorem next_at {α : Type} (L : List α) (g : α → Value) (k : Nat) {K : Nat} (hL : L.length = K) (hk : k < K) (z : Value) : ((L.take k).map g ++ List.replicate (K - k) z)[k]? = some z := by
  rw [List.getElem?_append_right (by simp; omega)]
  simp only [List.length_map, List.length_take, hL, show min k K = k by omega, Nat.sub_self]
  exact (List.getElem?_replicate_of_lt (by omega))
theorem set_next {α : Type} (L : List α) (g : α → Value) (k K : Nat) (hL : L.length = K) (hk : k < K) (z : Value) :
    (L[k]?).map (fun x => ((L.take k).map g ++ List.replicate (K - k) z).set k (g x)) = some ((L.take (k + 1)).map g ++ List.replicate (K - (k + 1)) z) := by
  rw [List.getElem?_eq_getElem (by omega)]
  simp only [Option.map_some, Option.some.injEq]
  rw [List.set_append_right _ _ (by simp; omega), List.take_succ_eq_append_getElem (by omega), show K - k = (K - (k + 1)) + 1 by omega, List.replicate_succ, List.map_append, List.append_assoc]
  simp only [List.length_map, List.length_take, hL, show min k K = k by omega, Nat.sub_self, List.set_cons_zero, List.map_cons, List.map_nil, List.cons_append, List.nil_append]
/-- A slice over a block that was just laid. -/
theorem Sl.fresh (w : World) (cs : Array Value) (t : TypeId) (n : Nat) (xs : List Value) (hx : cs.toList = xs) (hn : xs.length = n * 1) : Sl (w.alloc (.cells cs t)) (w.alloc (.cells cs t)).heap.size 1 (some ⟨w.heap.size, 0, none⟩) n xs := by
  refine ⟨hn, fun _ => ⟨w.heap.size, 0, rfl, by simp, fun j u hu => ?_⟩⟩
  have := news_at w cs t j u (by rw [hx]; exact hu)
  rwa [Addr.add_lit] at this
theorem below_alloc {B : Nat} {a w w' : World} (o : Obj) (h : Below B a w) (hB : B ≤ w.heap.size) (h' : Below (w.alloc o).heap.size (w.alloc o) w') : Below B a w' :=
  (h.alloc hB o).trans (h'.mono (by simp; omega))
theorem below_trans {B : Nat} {a w w' : World} (h : Below B a w) (hB : B ≤ w.heap.size) (h' : Below w.heap.size w w') : Below B a w' := h.trans (h'.mono hB)
theorem Sl.cell {w : World} {B n b off : Nat} {xs : List Value} (h : Sl w B 1 (some ⟨b, off, none⟩) n xs) (j : Nat) (u : Value) (hu : xs[j]? = some u) : w.cell? ⟨b, off + j, none⟩ = some u := by
  have := h.cells_at _ rfl j u hu
  rwa [Addr.add_lit] at this
theorem Sl.below' {w w' : World} {B B' size n : Nat} {A : Option Addr} {xs : List Value} (h : Sl w B size A n xs) (hb : Below B' w w') (hB : B ≤ B') : Sl w' B size A n xs := h.below (hb.mono hB)
end Go.Proofs.YtkdknfedieeenaaGreatDoor
