/- What words of scripts come to: Put and Del, whatever was there; how many words there can be. -/
import Derived.Test.YtgfoahednmipkaaDoorLawTrD
import Derived.Test.YtgfoahednmipkaaDoorViewI
namespace Go.Proofs.YtgfoahednmipkaaDoor
open Go.RowKit
set_option linter.unusedVariables false
set_option maxRecDepth 20000
def IsKey (q : List UInt8) : Prop := ∃ n l, n < 65536 ∧ q = keyL n l
def allKeys (N : Nat) : List (List UInt8) := (List.range N).flatMap fun n => (List.range 14).map fun l => keyL n l
theorem allKeys_len (N : Nat) : (allKeys N).length = N * 14 := by
  unfold allKeys
  rw [List.length_flatMap]
  induction N with
  | zero => rfl
  | succ N ih => rw [List.range_succ (n := N), List.map_append, List.sum_append, ih]; simp; omega
theorem keyL_mod (n l : Nat) : keyL n l = keyL n (l % 14) := by unfold keyL; rw [Nat.mod_mod]
theorem allKeys_mem {q : List UInt8} (h : IsKey q) : q ∈ allKeys 65536 := by
  obtain ⟨n, l, hn, rfl⟩ := h
  unfold allKeys
  rw [List.mem_flatMap]
  refine ⟨n, by simpa using hn, ?_⟩
  rw [keyL_mod]
  exact List.mem_map.2 ⟨l % 14, by simp; omega, rfl⟩
theorem keys_few {t : Tr} {p : List UInt8} (ho : t.Ok p) (hf : t.Fit) (h : ∀ q, (getR t q).isSome = true → IsKey q) : t.keys.length ≤ 917504 := by
  rw [show 917504 = (allKeys 65536).length from (allKeys_len 65536).symm]
  exact (keys_nodup ho).length_le_of_subset fun q hq => allKeys_mem (h q ((keys_get ho hf).1 hq))
section
variable {W w w' : World} {B a : Nat} {bs : List Nat} {t : Tr}
/-- What Put leaves, by what is read. -/
def PutQ (W : World) (B a : Nat) (bs : List Nat) (t : Tr) (q : List UInt8) (x : Int) (w w' : World) : Prop :=
  ∃ t' bs', TrL W B a bs' t' w' ∧ (∀ q', getR t' q' = if q' = q then some x else getR t q') ∧ (t'.keys.length = if (getR t q).isSome then t.keys.length else t.keys.length + 1) ∧ Only (fun y => y = a ∨ y ∈ bs) w w' ∧ ∀ y ∈ bs', y ∈ bs ∨ w.heap.size ≤ y
theorem TrL.putAny (h : TrL W B a bs t w) (q : List UInt8) (x : Int) (hm : mayL q = true) (hf : t.keys.length ≤ 1152921504606846976) :
    Calls Tryd.prog 12 #[.pointer (some ⟨a, 0, none⟩), .string (sb q), .int .i64 x] w fun e w' => e = .returned (.bool (getR t q).isNone) ∧ PutQ W B a bs t q x w w' := by
  refine (h.put q x hm hf).mono ?_
  rintro e w' ⟨rfl, bs', h1, h2, h3⟩
  exact ⟨rfl, _, bs', h1, get_put h.ok h.fit hm, keys_put h.ok h.fit hm, h2, h3⟩
def DelQ (W : World) (B a : Nat) (bs : List Nat) (t : Tr) (q : List UInt8) (w w' : World) : Prop :=
  ∃ t' bs', TrL W B a bs' t' w' ∧ (∀ q', getR t' q' = if q' = q then none else getR t q') ∧ (t'.keys.length = if (getR t q).isSome then t.keys.length - 1 else t.keys.length) ∧ Only (fun y => y = a ∨ y ∈ bs) w w' ∧ ∀ y ∈ bs', y ∈ bs ∨ w.heap.size ≤ y
theorem TrL.delAny (h : TrL W B a bs t w) (q : List UInt8) (hq : q.length ≤ 9223372036854775807) (hf : t.keys.length ≤ 1152921504606846976) :
    Calls Tryd.prog 11 #[.pointer (some ⟨a, 0, none⟩), .string (sb q)] w fun e w' => e = .returned (.bool (getR t q).isSome) ∧ DelQ W B a bs t q w w' := by
  cases hg : getR t q with
  | none =>
    refine (h.delNot q hq hg).mono ?_
    rintro e w' ⟨rfl, hb⟩
    refine ⟨rfl, t, bs, h.below hb, fun q' => ?_, by rw [hg]; rfl, Only.of_below _ hb, fun y hy => .inl hy⟩
    by_cases e : q' = q
    · subst e; rw [if_pos rfl, hg]
    · rw [if_neg e]
  | some v =>
    refine (h.del q v hg hf).mono ?_
    rintro e w' ⟨rfl, bs', h1, h2, h3⟩
    refine ⟨rfl, _, bs', h1, get_del h.ok h.fit hg, ?_, h2, h3⟩
    have := keys_del h.ok h.fit hg
    rw [hg]; simp only [Option.isSome_some, if_true]; omega
theorem TrL.nodesAny (h : TrL W B a bs t w) (hf : t.keys.length ≤ 917504) : Calls Tryd.prog 15 #[.pointer (some ⟨a, 0, none⟩)] w fun e w' => e = .returned (.int .i64 (t.nodes : Nat)) ∧ ∃ n, w' = w.drewN n := h.nodes (by omega)
end
/-- The word of a deed. -/
def keyZ (z : List Ints4T) (i : Nat) : List UInt8 := match z[i]? with | some (_, b, l, _) => keyL b.toNat l.toNat | none => []
theorem keyZ_at {z : List Ints4T} {i : Nat} (h : i < z.length) {p0 p3 : Int} {b l : Nat} (e : z[i] = (p0, (b : Int), (l : Int), p3)) : keyZ z i = keyL b l := by
  unfold keyZ; rw [List.getElem?_eq_getElem h, e]; simp
theorem keyZ_key {z : List Ints4T} {i : Nat} (h : i < z.length) (hok : ∀ a ∈ z, (Lit.int .u8 a.1).wf = true ∧ (Lit.int .u16 a.2.1).wf = true ∧ (Lit.int .u8 a.2.2.1).wf = true ∧ (Lit.int .i64 a.2.2.2).wf = true) : IsKey (keyZ z i) := by
  obtain ⟨b, l, x⟩ := z[i].2
  have h2 := (hok _ (List.getElem_mem h)).2.1
  have h3 := bounds_u16 h2
  refine ⟨z[i].2.1.toNat, z[i].2.2.1.toNat, by omega, ?_⟩
  unfold keyZ; rw [List.getElem?_eq_getElem h]
end Go.Proofs.YtgfoahednmipkaaDoor
