/-
  No cell of these rows narrows 'for every input' (looked for: loops, veiled, ifaces, maps, wideKeys, modest, calm, conditions, laid).
  DERIVED. THE GIVEN ROWS OF THIS SEAT. 6 by the template 'for every input the law returns true; each argument reads behind the call as it read before'; 0 by the template 'total and deterministic' (their statements: YtlmhmkpoaebokaaTotals.lean).
  GIVEN WITH THE SEED: the statements are not yours to turn. If you find one false, say at which input.
  Laid BY PROGRAM, IN A SANDBOX (cutbox-rows.mjs): the forced cells as the released guide's own fill.sh prints them over the translation 73d4f57d7cb47863… (all of the seat's roots in one cut). By AI agents, Wed Nov 11 2026. No macro, syntax, notation, axiom, sorry.
-/
import Derived.Test.YtlmhmkpoaebokaaChecked
import GoSem.Claim
import GoSem.ClaimJoined
import GoSem.ClaimMapViews
import Derived.JoinedTies
import Derived.KernelRfl
namespace Go.Proofs.Ytlmhmkpoaebokaa
/- THE CELL 'sum', in the pinned program and in every row, IS THE sha256 OF THE DUMP (.gsa) THAT YtlmhmkpoaebokaaProg.lean LOADS. Nothing in Lean hashes anything: it is a label: what it is worth is what the hold of that sum in a sandbox is worth. -/
noncomputable def Try.pinned : Pinned := { name := "ytlmhmkpoaebokaa", sum := "73d4f57d7cb47863570435a6c62acf196226a6c5c85ace433ab48d2415555a5b", checked := Try.checked }
namespace Rows
def none {H : Type} : Left H := { results := [], args := [] }

/-- 'bolterlaw21.ReplyBase': WHATEVER THE INPUT: true; the input reads as it did. -/
def replyBaseSpec : ChangeSpec := { name := "replyBase", fn := fun _ => fun
  | [d1, d2, d3] => { results := [.lit (.bool true)], args := [d1, d2, d3] }
  | _ => none }
def replyBaseRow : OpenClaim := { program := "ytlmhmkpoaebokaa", sum := "73d4f57d7cb47863570435a6c62acf196226a6c5c85ace433ab48d2415555a5b", func := "bolter/bolterlaw21.ReplyBase", spec := "replyBase", apart := false }
def ReplyBaseSaid : Prop := replyBaseRow.holds Try.pinned (OpenSpec.ofChange replyBaseSpec)

/-- ITS FALSE NEIGHBOUR: 'it returns false'. Refute it at one input. -/
def replyBaseWrong : ChangeSpec := { name := "replyBase", fn := fun _ => fun
  | [d1, d2, d3] => { results := [.lit (.bool false)], args := [d1, d2, d3] }
  | _ => none }
def ReplyBaseWrongFalsely : Prop := replyBaseRow.holds Try.pinned (OpenSpec.ofChange replyBaseWrong)

/-- 'bolterlaw21.ReplyFinds': WHATEVER THE INPUT: true; the input reads as it did. -/
def replyFindsSpec : ChangeSpec := { name := "replyFinds", fn := fun _ => fun
  | [d1, d2] => { results := [.lit (.bool true)], args := [d1, d2] }
  | _ => none }
def replyFindsRow : OpenClaim := { program := "ytlmhmkpoaebokaa", sum := "73d4f57d7cb47863570435a6c62acf196226a6c5c85ace433ab48d2415555a5b", func := "bolter/bolterlaw21.ReplyFinds", spec := "replyFinds", apart := false }
def ReplyFindsSaid : Prop := replyFindsRow.holds Try.pinned (OpenSpec.ofChange replyFindsSpec)

/-- ITS FALSE NEIGHBOUR: 'it returns false'. Refute it at one input. -/
def replyFindsWrong : ChangeSpec := { name := "replyFinds", fn := fun _ => fun
  | [d1, d2] => { results := [.lit (.bool false)], args := [d1, d2] }
  | _ => none }
def ReplyFindsWrongFalsely : Prop := replyFindsRow.holds Try.pinned (OpenSpec.ofChange replyFindsWrong)

/-- 'bolterlaw21.ReplyHides': WHATEVER THE INPUT: true; the input reads as it did. -/
def replyHidesSpec : ChangeSpec := { name := "replyHides", fn := fun _ => fun
  | [d1, d2, d3, d4, d5] => { results := [.lit (.bool true)], args := [d1, d2, d3, d4, d5] }
  | _ => none }
def replyHidesRow : OpenClaim := { program := "ytlmhmkpoaebokaa", sum := "73d4f57d7cb47863570435a6c62acf196226a6c5c85ace433ab48d2415555a5b", func := "bolter/bolterlaw21.ReplyHides", spec := "replyHides", apart := false }
def ReplyHidesSaid : Prop := replyHidesRow.holds Try.pinned (OpenSpec.ofChange replyHidesSpec)

/-- ITS FALSE NEIGHBOUR: 'it returns false'. Refute it at one input. -/
def replyHidesWrong : ChangeSpec := { name := "replyHides", fn := fun _ => fun
  | [d1, d2, d3, d4, d5] => { results := [.lit (.bool false)], args := [d1, d2, d3, d4, d5] }
  | _ => none }
def ReplyHidesWrongFalsely : Prop := replyHidesRow.holds Try.pinned (OpenSpec.ofChange replyHidesWrong)

/-- 'bolterlaw21.ReplyOf': WHATEVER THE INPUT: true; the input reads as it did. -/
def replyOfSpec : ChangeSpec := { name := "replyOf", fn := fun _ => fun
  | [d1, d2, d3, d4, d5] => { results := [.lit (.bool true)], args := [d1, d2, d3, d4, d5] }
  | _ => none }
def replyOfRow : OpenClaim := { program := "ytlmhmkpoaebokaa", sum := "73d4f57d7cb47863570435a6c62acf196226a6c5c85ace433ab48d2415555a5b", func := "bolter/bolterlaw21.ReplyOf", spec := "replyOf", apart := false }
def ReplyOfSaid : Prop := replyOfRow.holds Try.pinned (OpenSpec.ofChange replyOfSpec)

/-- ITS FALSE NEIGHBOUR: 'it returns false'. Refute it at one input. -/
def replyOfWrong : ChangeSpec := { name := "replyOf", fn := fun _ => fun
  | [d1, d2, d3, d4, d5] => { results := [.lit (.bool false)], args := [d1, d2, d3, d4, d5] }
  | _ => none }
def ReplyOfWrongFalsely : Prop := replyOfRow.holds Try.pinned (OpenSpec.ofChange replyOfWrong)

/-- 'bolterlaw26.PendingFree': WHATEVER THE INPUT: true; the input reads as it did. -/
def pendingFreeSpec : ChangeSpec := { name := "pendingFree", fn := fun _ => fun
  | [d1, d2] => { results := [.lit (.bool true)], args := [d1, d2] }
  | _ => none }
def pendingFreeRow : OpenClaim := { program := "ytlmhmkpoaebokaa", sum := "73d4f57d7cb47863570435a6c62acf196226a6c5c85ace433ab48d2415555a5b", func := "bolter/bolterlaw26.PendingFree", spec := "pendingFree", apart := false }
def PendingFreeSaid : Prop := pendingFreeRow.holds Try.pinned (OpenSpec.ofChange pendingFreeSpec)

/-- ITS FALSE NEIGHBOUR: 'it returns false'. Refute it at one input. -/
def pendingFreeWrong : ChangeSpec := { name := "pendingFree", fn := fun _ => fun
  | [d1, d2] => { results := [.lit (.bool false)], args := [d1, d2] }
  | _ => none }
def PendingFreeWrongFalsely : Prop := pendingFreeRow.holds Try.pinned (OpenSpec.ofChange pendingFreeWrong)

/-- 'bolterlaw26.PendingKeeps': WHATEVER THE INPUT: true; the input reads as it did. -/
def pendingKeepsSpec : ChangeSpec := { name := "pendingKeeps", fn := fun _ => fun
  | [d1, d2] => { results := [.lit (.bool true)], args := [d1, d2] }
  | _ => none }
def pendingKeepsRow : OpenClaim := { program := "ytlmhmkpoaebokaa", sum := "73d4f57d7cb47863570435a6c62acf196226a6c5c85ace433ab48d2415555a5b", func := "bolter/bolterlaw26.PendingKeeps", spec := "pendingKeeps", unfollowed := true, recurses := true, apart := false }
def PendingKeepsSaid : Prop := pendingKeepsRow.holds Try.pinned (OpenSpec.ofChange pendingKeepsSpec)

/-- ITS FALSE NEIGHBOUR: 'it returns false'. Refute it at one input. -/
def pendingKeepsWrong : ChangeSpec := { name := "pendingKeeps", fn := fun _ => fun
  | [d1, d2] => { results := [.lit (.bool false)], args := [d1, d2] }
  | _ => none }
def PendingKeepsWrongFalsely : Prop := pendingKeepsRow.holds Try.pinned (OpenSpec.ofChange pendingKeepsWrong)

/- THE SECOND FORM. 'bulk': how many values and letters a reading holds, each counted each time it is reached (what is shared counts as often as it is met; a slice's spare places count too). A statement '..UptoSaid' is the law's where the arguments, and the package variables that the reading takes, are together of bulk at most 1048576: NARROWER than '..Said'. Prove '..Said' where nothing that the law and all that it calls make is longer than what came in: it says more and counts as full. Else prove '..UptoSaid'. A law counts once. -/
mutual
def uptoBulk {H : Type} : DataW H → Nat
  | .lit (.string bytes) => bytes.length + 1
  | .lit _ => 1
  | .nil => 1
  | .ptr d => uptoBulk d + 1
  | .slice elems spare => uptoBulkAll elems + uptoBulkAll spare + 1
  | .agg parts => uptoBulkAll parts + 1
  | .iface _ d => uptoBulk d + 1
  | .map entries => uptoBulkEntries entries + 1
  | .held _ => 1
def uptoBulkAll {H : Type} : List (DataW H) → Nat
  | [] => 0
  | d :: r => uptoBulk d + uptoBulkAll r
def uptoBulkEntries {H : Type} : List (Lit × DataW H) → Nat
  | [] => 0
  | x :: r => uptoBulkEntry x + uptoBulkEntries r
def uptoBulkEntry {H : Type} : Lit × DataW H → Nat
  | (.string bytes, d) => bytes.length + uptoBulk d + 1
  | (_, d) => uptoBulk d + 1
 end
def uptoSmall : (H : Type) → List (DataW H) → Bool := fun _ ds => decide (uptoBulkAll ds ≤ 1048576)
def OpenSpec.upto (s : _root_.Go.ChangeSpec) : _root_.Go.OpenSpec := { _root_.Go.OpenSpec.ofChange s with cond := some uptoSmall }

/-- 'bolterlaw21.ReplyBase', WHERE WHAT IT READS IS OF BULK AT MOST 1048576: true; the input reads as it did. -/
def replyBaseUptoRow : OpenClaim := { program := "ytlmhmkpoaebokaa", sum := "73d4f57d7cb47863570435a6c62acf196226a6c5c85ace433ab48d2415555a5b", func := "bolter/bolterlaw21.ReplyBase", spec := "replyBase", apart := false, narrowed := true }
def ReplyBaseUptoSaid : Prop := replyBaseUptoRow.holds Try.pinned (OpenSpec.upto replyBaseSpec)

/-- 'bolterlaw21.ReplyFinds', WHERE WHAT IT READS IS OF BULK AT MOST 1048576: true; the input reads as it did. -/
def replyFindsUptoRow : OpenClaim := { program := "ytlmhmkpoaebokaa", sum := "73d4f57d7cb47863570435a6c62acf196226a6c5c85ace433ab48d2415555a5b", func := "bolter/bolterlaw21.ReplyFinds", spec := "replyFinds", apart := false, narrowed := true }
def ReplyFindsUptoSaid : Prop := replyFindsUptoRow.holds Try.pinned (OpenSpec.upto replyFindsSpec)

/-- 'bolterlaw21.ReplyHides', WHERE WHAT IT READS IS OF BULK AT MOST 1048576: true; the input reads as it did. -/
def replyHidesUptoRow : OpenClaim := { program := "ytlmhmkpoaebokaa", sum := "73d4f57d7cb47863570435a6c62acf196226a6c5c85ace433ab48d2415555a5b", func := "bolter/bolterlaw21.ReplyHides", spec := "replyHides", apart := false, narrowed := true }
def ReplyHidesUptoSaid : Prop := replyHidesUptoRow.holds Try.pinned (OpenSpec.upto replyHidesSpec)

/-- 'bolterlaw21.ReplyOf', WHERE WHAT IT READS IS OF BULK AT MOST 1048576: true; the input reads as it did. -/
def replyOfUptoRow : OpenClaim := { program := "ytlmhmkpoaebokaa", sum := "73d4f57d7cb47863570435a6c62acf196226a6c5c85ace433ab48d2415555a5b", func := "bolter/bolterlaw21.ReplyOf", spec := "replyOf", apart := false, narrowed := true }
def ReplyOfUptoSaid : Prop := replyOfUptoRow.holds Try.pinned (OpenSpec.upto replyOfSpec)

/-- 'bolterlaw26.PendingFree', WHERE WHAT IT READS IS OF BULK AT MOST 1048576: true; the input reads as it did. -/
def pendingFreeUptoRow : OpenClaim := { program := "ytlmhmkpoaebokaa", sum := "73d4f57d7cb47863570435a6c62acf196226a6c5c85ace433ab48d2415555a5b", func := "bolter/bolterlaw26.PendingFree", spec := "pendingFree", apart := false, narrowed := true }
def PendingFreeUptoSaid : Prop := pendingFreeUptoRow.holds Try.pinned (OpenSpec.upto pendingFreeSpec)

/-- 'bolterlaw26.PendingKeeps', WHERE WHAT IT READS IS OF BULK AT MOST 1048576: true; the input reads as it did. -/
def pendingKeepsUptoRow : OpenClaim := { program := "ytlmhmkpoaebokaa", sum := "73d4f57d7cb47863570435a6c62acf196226a6c5c85ace433ab48d2415555a5b", func := "bolter/bolterlaw26.PendingKeeps", spec := "pendingKeeps", unfollowed := true, recurses := true, apart := false, narrowed := true }
def PendingKeepsUptoSaid : Prop := pendingKeepsUptoRow.holds Try.pinned (OpenSpec.upto pendingKeepsSpec)

end Rows
end Go.Proofs.Ytlmhmkpoaebokaa
