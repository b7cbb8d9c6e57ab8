/- 'buf = append(buf, xs...)' of any slice that reads as a list, nil or not. It speaks of no program. -/
import Derived.Test.YthhlgogokcblgabBuf
import Derived.Laws.AppendOwnNone
namespace Go.Proofs.Ythhlgogokcblgab
open Go.RowKit
set_option linter.unusedVariables false
section
variable {P : Program}
theorem wpList_append_all {ops : Array Oper} {rest : List Oper} {o : Oper} {a : Act} {Q : Exit → Act → World → Prop} {w : World} (hgd : Region.wanted o (yielded ops a.tmps) = true) (s x : Operand) (t : TypeId)
    (ho : o.op = .call { callee := .builtin .append, args := #[s, x], argTypes := #[t, t] })
    (B : Nat) (e : TypeId) (i : TypeInfo) (z : Value) (bytes : Nat) (ht : P.underlying t = some (.slice e)) (hi : P.info? e = some i) (hz : i.zero = some z) (hsize : i.size = 1) (hby : i.bytes = bytes) (hzs : z.cells.size = 1)
    {v : Value} {n : Nat} {xs : List Value} {W : World} (hb : Buf B e W v n xs w) (hs : a.eval s = v)
    {C : Nat} {A : Option Addr} {m c : Nat} {news : List Value} (hA : Sl w C 1 A m news) (hA0 : A = none → m = 0 ∧ c = 0)
    (hx : a.eval x = .slice A m c) (h1 : ∀ u ∈ news, u.oneCell' = true) (hlen : n + m ≤ maxLen) (hbytes : (n + m) * bytes ≤ 140737488355328)
    (h : ∀ v' w', Buf B e W v' (n + m) (xs ++ news) w' → wpList P ops Q rest (a.put o.dst v') w') : wpList P ops Q (o :: rest) a w := by
  cases A with
  | none =>
    obtain ⟨rfl, rfl⟩ := hA0 rfl
    have hn : news = [] := List.eq_nil_of_length_eq_zero (by simpa using hA.1)
    subst hn
    refine wpList_step fun K hK => ?_
    rw [if_pos hgd]
    have hrun := run_append_owned_none (P := P) (w := w) B t o.type e i 1 ht hi v n xs hb.1
    unfold Oper.wp
    simp [execOp, ho, resolve, invoke, builtin, hs, hx, hrun, Result.andThen]
    exact hK _ _ (h v w (by simpa using hb))
  | some ad =>
    refine wpList_step fun K hK => ?_
    rw [if_pos hgd]
    refine wp_append_own w s x t ho B e i z 1 bytes ht hi hz hsize hby hzs (by decide) v n xs hs hb.1 ad m c news hx hA.1 (hA.cells_at ad rfl) h1 hlen hbytes hb.2.2 ?_
    intro v' w' ho' hg _
    exact hK _ _ (h v' w' (hb.grown ho' hg))
end
end Go.Proofs.Ythhlgogokcblgab
