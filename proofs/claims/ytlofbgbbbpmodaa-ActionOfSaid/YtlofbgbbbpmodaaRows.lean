/-
  No cell of these rows narrows 'for every input' (looked for: loops, veiled, ifaces, maps, wideKeys, modest, calm, conditions, laid).
  DERIVED. THE GIVEN ROWS OF THIS SEAT. 3 by the template 'for every input the law returns true; each argument reads behind the call as it read before'; 0 by the template 'total and deterministic' (their statements: YtlofbgbbbpmodaaTotals.lean).
  GIVEN WITH THE SEED: the statements are not yours to turn. If you find one false, say at which input.
  Laid BY PROGRAM, IN A SANDBOX (cutbox-rows.mjs): the forced cells as the released guide's own fill.sh prints them over the translation ca5d71583d5b206c… (all of the seat's roots in one cut). By AI agents, Wed Nov 11 2026. No macro, syntax, notation, axiom, sorry.
-/
import Derived.Test.YtlofbgbbbpmodaaChecked
import GoSem.Claim
import GoSem.ClaimJoined
import GoSem.ClaimMapViews
import Derived.JoinedTies
import Derived.KernelRfl
namespace Go.Proofs.Ytlofbgbbbpmodaa
/- THE CELL 'sum', in the pinned program and in every row, IS THE sha256 OF THE DUMP (.gsa) THAT YtlofbgbbbpmodaaProg.lean LOADS. Nothing in Lean hashes anything: it is a label: what it is worth is what the hold of that sum in a sandbox is worth. -/
noncomputable def Try.pinned : Pinned := { name := "ytlofbgbbbpmodaa", sum := "ca5d71583d5b206ca0245e2bb4b6009be9ba645684e0487aded409a609f011af", checked := Try.checked }
namespace Rows
def none {H : Type} : Left H := { results := [], args := [] }

/-- 'bolterlaw14.ActionLocal': WHATEVER THE INPUT: true; the input reads as it did. -/
def actionLocalSpec : ChangeSpec := { name := "actionLocal", fn := fun _ => fun
  | [d1, d2] => { results := [.lit (.bool true)], args := [d1, d2] }
  | _ => none }
def actionLocalRow : OpenClaim := { program := "ytlofbgbbbpmodaa", sum := "ca5d71583d5b206ca0245e2bb4b6009be9ba645684e0487aded409a609f011af", func := "bolter/bolterlaw14.ActionLocal", spec := "actionLocal", apart := false }
def ActionLocalSaid : Prop := actionLocalRow.holds Try.pinned (OpenSpec.ofChange actionLocalSpec)

/-- ITS FALSE NEIGHBOUR: 'it returns false'. Refute it at one input. -/
def actionLocalWrong : ChangeSpec := { name := "actionLocal", fn := fun _ => fun
  | [d1, d2] => { results := [.lit (.bool false)], args := [d1, d2] }
  | _ => none }
def ActionLocalWrongFalsely : Prop := actionLocalRow.holds Try.pinned (OpenSpec.ofChange actionLocalWrong)

/-- 'bolterlaw14.ActionSame': WHATEVER THE INPUT: true; the input reads as it did. -/
def actionSameSpec : ChangeSpec := { name := "actionSame", fn := fun _ => fun
  | [d1, d2, d3, d4, d5] => { results := [.lit (.bool true)], args := [d1, d2, d3, d4, d5] }
  | _ => none }
def actionSameRow : OpenClaim := { program := "ytlofbgbbbpmodaa", sum := "ca5d71583d5b206ca0245e2bb4b6009be9ba645684e0487aded409a609f011af", func := "bolter/bolterlaw14.ActionSame", spec := "actionSame", apart := false }
def ActionSameSaid : Prop := actionSameRow.holds Try.pinned (OpenSpec.ofChange actionSameSpec)

/-- ITS FALSE NEIGHBOUR: 'it returns false'. Refute it at one input. -/
def actionSameWrong : ChangeSpec := { name := "actionSame", fn := fun _ => fun
  | [d1, d2, d3, d4, d5] => { results := [.lit (.bool false)], args := [d1, d2, d3, d4, d5] }
  | _ => none }
def ActionSameWrongFalsely : Prop := actionSameRow.holds Try.pinned (OpenSpec.ofChange actionSameWrong)

/-- 'bolterlaw14.ActionOf': WHATEVER THE INPUT: true; the input reads as it did. -/
def actionOfSpec : ChangeSpec := { name := "actionOf", fn := fun _ => fun
  | [d1, d2, d3] => { results := [.lit (.bool true)], args := [d1, d2, d3] }
  | _ => none }
def actionOfRow : OpenClaim := { program := "ytlofbgbbbpmodaa", sum := "ca5d71583d5b206ca0245e2bb4b6009be9ba645684e0487aded409a609f011af", func := "bolter/bolterlaw14.ActionOf", spec := "actionOf", apart := false }
def ActionOfSaid : Prop := actionOfRow.holds Try.pinned (OpenSpec.ofChange actionOfSpec)

/-- ITS FALSE NEIGHBOUR: 'it returns false'. Refute it at one input. -/
def actionOfWrong : ChangeSpec := { name := "actionOf", fn := fun _ => fun
  | [d1, d2, d3] => { results := [.lit (.bool false)], args := [d1, d2, d3] }
  | _ => none }
def ActionOfWrongFalsely : Prop := actionOfRow.holds Try.pinned (OpenSpec.ofChange actionOfWrong)

/- THE SECOND FORM. 'bulk': how many values and letters a reading holds, each counted each time it is reached (what is shared counts as often as it is met; a slice's spare places count too). A statement '..UptoSaid' is the law's where the arguments, and the package variables that the reading takes, are together of bulk at most 1048576: NARROWER than '..Said'. Prove '..Said' where nothing that the law and all that it calls make is longer than what came in: it says more and counts as full. Else prove '..UptoSaid'. A law counts once. -/
mutual
def uptoBulk {H : Type} : DataW H → Nat
  | .lit (.string bytes) => bytes.length + 1
  | .lit _ => 1
  | .nil => 1
  | .ptr d => uptoBulk d + 1
  | .slice elems spare => uptoBulkAll elems + uptoBulkAll spare + 1
  | .agg parts => uptoBulkAll parts + 1
  | .iface _ d => uptoBulk d + 1
  | .map entries => uptoBulkEntries entries + 1
  | .held _ => 1
def uptoBulkAll {H : Type} : List (DataW H) → Nat
  | [] => 0
  | d :: r => uptoBulk d + uptoBulkAll r
def uptoBulkEntries {H : Type} : List (Lit × DataW H) → Nat
  | [] => 0
  | x :: r => uptoBulkEntry x + uptoBulkEntries r
def uptoBulkEntry {H : Type} : Lit × DataW H → Nat
  | (.string bytes, d) => bytes.length + uptoBulk d + 1
  | (_, d) => uptoBulk d + 1
 end
def uptoSmall : (H : Type) → List (DataW H) → Bool := fun _ ds => decide (uptoBulkAll ds ≤ 1048576)
def OpenSpec.upto (s : _root_.Go.ChangeSpec) : _root_.Go.OpenSpec := { _root_.Go.OpenSpec.ofChange s with cond := some uptoSmall }

/-- 'bolterlaw14.ActionLocal', WHERE WHAT IT READS IS OF BULK AT MOST 1048576: true; the input reads as it did. -/
def actionLocalUptoRow : OpenClaim := { program := "ytlofbgbbbpmodaa", sum := "ca5d71583d5b206ca0245e2bb4b6009be9ba645684e0487aded409a609f011af", func := "bolter/bolterlaw14.ActionLocal", spec := "actionLocal", apart := false, narrowed := true }
def ActionLocalUptoSaid : Prop := actionLocalUptoRow.holds Try.pinned (OpenSpec.upto actionLocalSpec)

/-- 'bolterlaw14.ActionSame', WHERE WHAT IT READS IS OF BULK AT MOST 1048576: true; the input reads as it did. -/
def actionSameUptoRow : OpenClaim := { program := "ytlofbgbbbpmodaa", sum := "ca5d71583d5b206ca0245e2bb4b6009be9ba645684e0487aded409a609f011af", func := "bolter/bolterlaw14.ActionSame", spec := "actionSame", apart := false, narrowed := true }
def ActionSameUptoSaid : Prop := actionSameUptoRow.holds Try.pinned (OpenSpec.upto actionSameSpec)

/-- 'bolterlaw14.ActionOf', WHERE WHAT IT READS IS OF BULK AT MOST 1048576: true; the input reads as it did. -/
def actionOfUptoRow : OpenClaim := { program := "ytlofbgbbbpmodaa", sum := "ca5d71583d5b206ca0245e2bb4b6009be9ba645684e0487aded409a609f011af", func := "bolter/bolterlaw14.ActionOf", spec := "actionOf", apart := false, narrowed := true }
def ActionOfUptoSaid : Prop := actionOfUptoRow.holds Try.pinned (OpenSpec.upto actionOfSpec)

end Rows
end Go.Proofs.Ytlofbgbbbpmodaa
