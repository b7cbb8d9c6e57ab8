/- Slices that the call owns, of elements of several cells, in regions that draw their order: what is said of them, and append. It speaks of no program. -/
import Derived.Test.YtoacmdjbmbdjdaaObz
import Derived.Test.YtoacmdjbmbdjdaaReg6
import Derived.Test.YtoacmdjbmbdjdaaCs
namespace Go.Proofs.Ytoacmdjbmbdjdaa
open Go.RowKit
set_option linter.unusedVariables false
theorem oper_append_obm {P : Program} {o : Oper} {a : Act} {Q : Exit → Act → World → Prop} {K : Act → World → Prop} {w : World} (s x : Operand) (t tx : TypeId)
    (ho : o.op = .call { callee := .builtin .append, args := #[s, x], argTypes := #[t, tx] }) {sz : Nat}
    (e : TypeId) (i : TypeInfo) (z : Value) (bytes : Nat) (ht : P.underlying t = some (.slice e)) (hi : P.info? e = some i) (hz : i.zero = some z) (hsize : i.size = sz) (hby : i.bytes = bytes) (hzs : z.cells.size = sz)
    {B : Nat} {v : Value} {n : Nat} {l : List Value} {W : World} (hb : OBM sz B W v n l w) (hs : a.eval s = v) {vx : Value} {m : Nat} {news : List Value} (hx : a.eval x = vx) (hsrc : Src P sz tx vx m news w) (hnl : news.length = m * sz)
    (hlen : n + m ≤ maxLen) (hbytes : (n + m) * bytes ≤ 140737488355328)
    (h : ∀ v' w', OBM sz B W v' (n + m) (l ++ news) w' → w.heap.size ≤ w'.heap.size → (∀ k, k < w.heap.size → some k ≠ v.ownBlock → w'.heap[k]? = w.heap[k]?) → (v'.ownBlock = v.ownBlock ∨ v'.ownBlock = some w.heap.size) → K (a.put o.dst v') w') :
    Oper.wp P o a w K Q := by
  obtain ⟨v', w', hr, h1, h2, h3, h4⟩ := run_append_obm (P := P) t tx o.type e i z bytes ht hi hz hsize hby hzs hb vx m news hsrc hnl hlen hbytes
  unfold Oper.wp execOp
  simp only [ho, resolve, invoke, builtin, Sem.run_bind, Sem.run_pure, Result.andThen_ok, List.map_toArray, List.map_cons, List.map_nil, hs, hx, hr]
  exact h v' w' h1 h2 h3 h4
/-- A slice that reads as cells is what append can take. -/
theorem Sl.srcM {P : Program} {w : World} {C sz m c : Nat} {A : Option Addr} {news : List Value} {tx e' : TypeId} (hk : P.underlying tx = some (.slice e')) (hA : Sl w C sz A m news) (hA0 : A = none → m = 0) (h1 : ∀ u ∈ news, u.oneCell' = true) : Src P sz tx (.slice A m c) m news w := by
  cases A with
  | none =>
    have h0 := hA0 rfl
    subst h0
    have : news = [] := List.eq_nil_of_length_eq_zero (by rw [hA.1]; simp)
    subst this
    exact Src.ofNil w hk c
  | some ad => exact Src.ofSlice _ hk ad m c news hA.1 (fun j u hu => hA.cells_at ad rfl j u hu) h1
/-! ### Words -/
def ownW (sz B : Nat) (W : World) (n : Nat) (l : List Value) : Value → World → Prop := fun v w => OBM sz B W v n l w
theorem ownW_stays (sz B : Nat) (W : World) (n : Nat) (l : List Value) : ∀ v w w', ownW sz B W n l v w → Goes w w' → ownW sz B W n l v w' := fun _ _ _ h hb => OBM.keep h hb (Nat.le_refl _)
/-- A slice of one element over a block of these cells. -/
def litW (n : Nat) (vs : List Value) : Value → World → Prop := fun v w => ∃ g, v = .slice (some ⟨g, 0, none⟩) n n ∧ Cs w g vs
theorem litW_stays (n : Nat) (vs : List Value) : ∀ v w w', litW n vs v w → Goes w w' → litW n vs v w' := by
  rintro v w w' ⟨g, rfl, h⟩ hb
  exact ⟨g, rfl, h.below hb⟩
theorem litW_new (n : Nat) (w : World) (cs : Array Value) (t : TypeId) (vs : List Value) (hv : cs.toList = vs := by rfl) : litW n vs (.slice (some ⟨w.heap.size, 0, none⟩) n n) (w.alloc (.cells cs t)) := ⟨_, rfl, Cs.new w cs t vs hv⟩
/-- A place within a block of these cells. -/
def atW (j : Nat) (vs : List Value) : Value → World → Prop := fun v w => ∃ g, v = .pointer (some ⟨g, j, none⟩) ∧ Cs w g vs
theorem atW_stays (j : Nat) (vs : List Value) : ∀ v w w', atW j vs v w → Goes w w' → atW j vs v w' := by
  rintro v w w' ⟨g, rfl, h⟩ hb
  exact ⟨g, rfl, h.below hb⟩
/-- A box of these cells, which lies above B. -/
def boxW (B : Nat) (vs : List Value) : Value → World → Prop := fun v w => ∃ g, v = .pointer (some ⟨g, 0, none⟩) ∧ B ≤ g ∧ Cs w g vs
theorem boxW_stays (B : Nat) (vs : List Value) : ∀ v w w', boxW B vs v w → Goes w w' → boxW B vs v w' := by
  rintro v w w' ⟨g, rfl, hB, h⟩ hb
  exact ⟨g, rfl, hB, h.below hb⟩
theorem until_done {k K : Nat} {p : Value → World → Prop} {d : Nat → Bool} {v : Value} {w : World} (h : d k = true) : until_ k p (setD d K) v w := fun hk => by
  have := setD_le d K k h; rw [hk] at this; cases this
theorem until_self {K : Nat} {p : Value → World → Prop} {d : Nat → Bool} {v : Value} {w : World} : until_ K p (setD d K) v w := fun hk => by simp [setD] at hk
theorem until_of {k : Nat} {p : Value → World → Prop} {d : Nat → Bool} {v : Value} {w : World} (h : p v w) : until_ k p d v w := fun _ => h
end Go.Proofs.Ytoacmdjbmbdjdaa
