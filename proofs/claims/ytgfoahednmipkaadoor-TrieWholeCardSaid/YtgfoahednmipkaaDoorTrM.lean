/- A trie as it lies in memory. It speaks of no program. -/
import Derived.Test.YtgfoahednmipkaaDoorTrP
import Derived.Test.YtgfoahednmipkaaDoorOnly
namespace Go.Proofs.YtgfoahednmipkaaDoor
open Go.RowKit
set_option linter.unusedVariables false
/-- A word as a string. -/
def sb (k : List UInt8) : ByteArray := ⟨k.toArray⟩
theorem sb_size (k : List UInt8) : (sb k).size = k.length := by simp [sb, ByteArray.size]
theorem sb_list (k : List UInt8) : (sb k).data.toList = k := by simp [sb]
theorem sb_of (s : ByteArray) : sb s.data.toList = s := by simp [sb]
theorem sb_inj {a b : List UInt8} (h : sb a = sb b) : a = b := by rw [← sb_list a, h, sb_list]
theorem sb_append (a b : List UInt8) : sb a ++ sb b = sb (a ++ b) := by
  apply ByteArray.ext
  simp [sb]
theorem sb_take (q : List UInt8) (n : Nat) : (sb q).extract 0 n = sb (q.take n) := by
  apply ByteArray.ext
  rw [ByteArray.data_extract]
  simp [sb]
theorem sb_get (q : List UInt8) (i : Nat) (h : i < (sb q).size) : (sb q)[i] = q[i]'(by rwa [sb_size] at h) := by
  show (sb q).data[i] = _
  simp [sb]
def ptrV (p : Option Nat) : Value := .pointer (p.map fun b => ⟨b, 0, none⟩)
/-- The tree lies at p, in these blocks. -/
def TrM (w : World) : Tr → Option Nat → List Nat → Prop
  | .nil, p, bs => p = none ∧ bs = []
  | .node k v h c, p, bs => ∃ (b : Nat) (ps : Bool → Option Nat) (bb : Bool → List Nat), p = some b ∧ bs = b :: (bb false ++ bb true) ∧ Cs w b [.string (sb k), .int .i64 v, .bool h, ptrV (ps false), ptrV (ps true)] ∧ ∀ s, TrM w (c s) (ps s) (bb s)
theorem mem_bb {bb : Bool → List Nat} {s : Bool} {x b : Nat} (h : x ∈ bb s) : x ∈ b :: (bb false ++ bb true) := by
  cases s <;> simp [h]
theorem TrM.lt {w : World} {t : Tr} : ∀ {p : Option Nat} {bs : List Nat}, TrM w t p bs → ∀ x ∈ bs, x < w.heap.size := by
  induction t with
  | nil => intro p bs h x hx; obtain ⟨-, rfl⟩ := h; cases hx
  | node k v h c ih =>
    intro p bs hm x hx
    obtain ⟨b, ps, bb, rfl, rfl, hc, hk⟩ := hm
    simp only [List.mem_cons, List.mem_append] at hx
    rcases hx with rfl | hx | hx
    · exact hc.lt
    · exact ih _ (hk _) x hx
    · exact ih _ (hk _) x hx
theorem TrM.keep {w w' : World} {t : Tr} : ∀ {p : Option Nat} {bs : List Nat}, TrM w t p bs → w.heap.size ≤ w'.heap.size → (∀ x ∈ bs, w'.heap[x]? = w.heap[x]?) → TrM w' t p bs := by
  induction t with
  | nil => intro p bs h _ _; exact h
  | node k v h c ih =>
    intro p bs hm hs he
    obtain ⟨b, ps, bb, rfl, rfl, hc, hk⟩ := hm
    refine ⟨b, ps, bb, rfl, rfl, hc.block (he b (by simp)) hs, fun s => ih s (hk s) hs fun x hx => he x (mem_bb hx)⟩
theorem TrM.only {w w' : World} {t : Tr} {p : Option Nat} {bs : List Nat} {S : Nat → Prop} (h : TrM w t p bs) (ho : Only S w w') (hn : ∀ x ∈ bs, ¬ S x) : TrM w' t p bs :=
  h.keep ho.size fun x hx => ho.block x (h.lt x hx) (hn x hx)
theorem TrM.below {w w' : World} {t : Tr} {p : Option Nat} {bs : List Nat} (h : TrM w t p bs) (hb : Below w.heap.size w w') : TrM w' t p bs := h.keep hb.size fun x hx => hb.block x (h.lt x hx)
theorem TrM.drewN {w : World} {t : Tr} {p : Option Nat} {bs : List Nat} (h : TrM w t p bs) (n : Nat) : TrM (w.drewN n) t p bs := h.keep (Nat.le_refl _) fun _ _ => rfl
theorem TrM.nil_ptr {w : World} {t : Tr} {bs : List Nat} (h : TrM w t none bs) : t = .nil ∧ bs = [] := by
  cases t with
  | nil => exact ⟨rfl, h.2⟩
  | node k v g c => obtain ⟨b, _, _, e, _⟩ := h; cases e
theorem TrM.some_ptr {w : World} {t : Tr} {b : Nat} {bs : List Nat} (h : TrM w t (some b) bs) : ∃ k v g c, t = .node k v g c := by
  cases t with
  | nil => cases h.1
  | node k v g c => exact ⟨k, v, g, c, rfl⟩
theorem TrM.leaf (w : World) (q : List UInt8) (x : Int) (b : Nat) (h : Cs w b [.string (sb q), .int .i64 x, .bool true, .pointer none, .pointer none]) : TrM w (leafR q x) (some b) [b] :=
  ⟨b, fun _ => none, fun _ => [], rfl, rfl, h, fun _ => ⟨rfl, rfl⟩⟩
/-- How many blocks there are. -/
theorem TrM.count {w : World} {t : Tr} : ∀ {p : Option Nat} {bs : List Nat}, TrM w t p bs → bs.length = t.nodes := by
  induction t with
  | nil => intro p bs h; obtain ⟨-, rfl⟩ := h; rfl
  | node k v h c ih =>
    intro p bs hm
    obtain ⟨b, ps, bb, rfl, rfl, hc, hk⟩ := hm
    simp only [List.length_cons, List.length_append, ih _ (hk _), Tr.nodes]
    omega
def updP {α : Type} (c : Bool → α) (s : Bool) (t : α) : Bool → α := fun i => if i = s then t else c i
/-- A node one of whose kids is another tree now. -/
theorem TrM.kid {w : World} {k : List UInt8} {v : Int} {h : Bool} {c : Bool → Tr} {b : Nat} {ps : Bool → Option Nat} {bb : Bool → List Nat} {s : Bool} {t : Tr} {p : Option Nat} {bs : List Nat}
    (hc : Cs w b [.string (sb k), .int .i64 v, .bool h, ptrV (updP ps s p false), ptrV (updP ps s p true)]) (ht : TrM w t p bs) (ho : TrM w (c (!s)) (ps (!s)) (bb (!s))) :
    TrM w (.node k v h (updC c s t)) (some b) (b :: (updP bb s bs false ++ updP bb s bs true)) := by
  refine ⟨b, updP ps s p, updP bb s bs, rfl, rfl, hc, fun i => ?_⟩
  by_cases e : i = s
  · subst e; rw [updC_same]; simpa [updP] using ht
  · have e' : i = !s := by cases i <;> cases s <;> simp_all
    subst e'
    rw [updC_other _ _ _ _ e]; simpa [updP, e] using ho
theorem updP_mem {bb : Bool → List Nat} {s : Bool} {bs : List Nat} {b x : Nat} (h : x ∈ b :: (updP bb s bs false ++ updP bb s bs true)) : x = b ∨ x ∈ bs ∨ x ∈ bb (!s) := by
  cases s <;> simp [updP] at h ⊢ <;> rcases h with h | h | h <;> simp [h]
theorem updP_nodup {bb : Bool → List Nat} {s : Bool} {bs : List Nat} {b : Nat} (h1 : bs.Nodup) (h2 : (bb (!s)).Nodup) (h3 : b ∉ bs) (h4 : b ∉ bb (!s)) (h5 : ∀ x ∈ bs, x ∉ bb (!s)) :
    (b :: (updP bb s bs false ++ updP bb s bs true)).Nodup := by
  refine List.nodup_cons.2 ⟨fun hm => ?_, ?_⟩
  · cases s <;> simp [updP] at hm <;> rcases hm with hm | hm <;> simp_all
  · cases s
    · simp only [updP] at *
      refine List.nodup_append.2 ⟨by simpa using h1, by simpa using h2, fun x hx y hy e => ?_⟩
      subst e
      exact h5 x (by simpa using hx) (by simpa using hy)
    · simp only [updP] at *
      refine List.nodup_append.2 ⟨by simpa using h2, by simpa using h1, fun x hx y hy e => ?_⟩
      subst e
      exact h5 x (by simpa using hy) (by simpa using hx)
theorem bb_nodup {bb : Bool → List Nat} {b : Nat} (h : (b :: (bb false ++ bb true)).Nodup) : (∀ s, (bb s).Nodup) ∧ (∀ s, b ∉ bb s) ∧ ∀ s, ∀ x ∈ bb s, x ∉ bb (!s) := by
  obtain ⟨h1, h2⟩ := List.nodup_cons.1 h
  obtain ⟨h3, h4, h5⟩ := List.nodup_append.1 h2
  refine ⟨fun s => by cases s <;> assumption, fun s hm => h1 (by cases s <;> simp [hm]), fun s x hx hy => ?_⟩
  cases s
  · exact h5 x hx x hy rfl
  · exact h5 x hy x hx rfl
end Go.Proofs.YtgfoahednmipkaaDoor
