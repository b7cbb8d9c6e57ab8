/-
  No cell of these rows narrows 'for every input' (looked for: loops, veiled, ifaces, maps, wideKeys, modest, calm, conditions, laid).
  DERIVED. THE GIVEN ROWS OF THIS SEAT. 11 by the template 'for every input the law returns true; each argument reads behind the call as it read before'; 0 by the template 'total and deterministic' (their statements: YthhlgogokcblgabTotals.lean).
  GIVEN WITH THE SEED: the statements are not yours to turn. If you find one false, say at which input.
  Laid BY PROGRAM, IN A SANDBOX (cutbox-rows.mjs): the forced cells as the released guide's own fill.sh prints them over the translation a947a54d27c190bc… (all of the seat's roots in one cut). By AI agents, Wed Nov 11 2026. No macro, syntax, notation, axiom, sorry.
-/
import Derived.Test.YthhlgogokcblgabChecked
import GoSem.Claim
import GoSem.ClaimJoined
import GoSem.ClaimMapViews
import Derived.JoinedTies
import Derived.KernelRfl
namespace Go.Proofs.Ythhlgogokcblgab
/- THE CELL 'sum', in the pinned program and in every row, IS THE sha256 OF THE DUMP (.gsa) THAT YthhlgogokcblgabProg.lean LOADS. Nothing in Lean hashes anything: it is a label: what it is worth is what the hold of that sum in a sandbox is worth. -/
noncomputable def Try.pinned : Pinned := { name := "ythhlgogokcblgab", sum := "a947a54d27c190bc0aa631647318aca2b3eabb813a7a8159a3cc53459d98b826", checked := Try.checked }
namespace Rows
def none {H : Type} : Left H := { results := [], args := [] }

/-- 'bolterlaw02.NameJoin': WHATEVER THE INPUT: true; the input reads as it did. -/
def nameJoinSpec : ChangeSpec := { name := "nameJoin", fn := fun _ => fun
  | [d1, d2] => { results := [.lit (.bool true)], args := [d1, d2] }
  | _ => none }
def nameJoinRow : OpenClaim := { program := "ythhlgogokcblgab", sum := "a947a54d27c190bc0aa631647318aca2b3eabb813a7a8159a3cc53459d98b826", func := "bolter/bolterlaw02.NameJoin", spec := "nameJoin", inPlace := ["internal/abi.NoEscape"], apart := false }
def NameJoinSaid : Prop := nameJoinRow.holds Try.pinned (OpenSpec.ofChange nameJoinSpec)

/-- ITS FALSE NEIGHBOUR: 'it returns false'. Refute it at one input. -/
def nameJoinWrong : ChangeSpec := { name := "nameJoin", fn := fun _ => fun
  | [d1, d2] => { results := [.lit (.bool false)], args := [d1, d2] }
  | _ => none }
def NameJoinWrongFalsely : Prop := nameJoinRow.holds Try.pinned (OpenSpec.ofChange nameJoinWrong)

/-- 'bolterlaw06.SerialLater': WHATEVER THE INPUT: true; the input reads as it did. -/
def serialLaterSpec : ChangeSpec := { name := "serialLater", fn := fun _ => fun
  | [d1, d2] => { results := [.lit (.bool true)], args := [d1, d2] }
  | _ => none }
def serialLaterRow : OpenClaim := { program := "ythhlgogokcblgab", sum := "a947a54d27c190bc0aa631647318aca2b3eabb813a7a8159a3cc53459d98b826", func := "bolter/bolterlaw06.SerialLater", spec := "serialLater", apart := false }
def SerialLaterSaid : Prop := serialLaterRow.holds Try.pinned (OpenSpec.ofChange serialLaterSpec)

/-- ITS FALSE NEIGHBOUR: 'it returns false'. Refute it at one input. -/
def serialLaterWrong : ChangeSpec := { name := "serialLater", fn := fun _ => fun
  | [d1, d2] => { results := [.lit (.bool false)], args := [d1, d2] }
  | _ => none }
def SerialLaterWrongFalsely : Prop := serialLaterRow.holds Try.pinned (OpenSpec.ofChange serialLaterWrong)

/-- 'bolterlaw06.SerialAdd': WHATEVER THE INPUT: true; the input reads as it did. -/
def serialAddSpec : ChangeSpec := { name := "serialAdd", fn := fun _ => fun
  | [d1, d2] => { results := [.lit (.bool true)], args := [d1, d2] }
  | _ => none }
def serialAddRow : OpenClaim := { program := "ythhlgogokcblgab", sum := "a947a54d27c190bc0aa631647318aca2b3eabb813a7a8159a3cc53459d98b826", func := "bolter/bolterlaw06.SerialAdd", spec := "serialAdd", apart := false }
def SerialAddSaid : Prop := serialAddRow.holds Try.pinned (OpenSpec.ofChange serialAddSpec)

/-- ITS FALSE NEIGHBOUR: 'it returns false'. Refute it at one input. -/
def serialAddWrong : ChangeSpec := { name := "serialAdd", fn := fun _ => fun
  | [d1, d2] => { results := [.lit (.bool false)], args := [d1, d2] }
  | _ => none }
def SerialAddWrongFalsely : Prop := serialAddRow.holds Try.pinned (OpenSpec.ofChange serialAddWrong)

/-- 'bolterlaw06.SerialLast': WHATEVER THE INPUT: true; the input reads as it did. -/
def serialLastSpec : ChangeSpec := { name := "serialLast", fn := fun _ => fun
  | [d] => { results := [.lit (.bool true)], args := [d] }
  | _ => none }
def serialLastRow : OpenClaim := { program := "ythhlgogokcblgab", sum := "a947a54d27c190bc0aa631647318aca2b3eabb813a7a8159a3cc53459d98b826", func := "bolter/bolterlaw06.SerialLast", spec := "serialLast", apart := false }
def SerialLastSaid : Prop := serialLastRow.holds Try.pinned (OpenSpec.ofChange serialLastSpec)

/-- ITS FALSE NEIGHBOUR: 'it returns false'. Refute it at one input. -/
def serialLastWrong : ChangeSpec := { name := "serialLast", fn := fun _ => fun
  | [d] => { results := [.lit (.bool false)], args := [d] }
  | _ => none }
def SerialLastWrongFalsely : Prop := serialLastRow.holds Try.pinned (OpenSpec.ofChange serialLastWrong)

/-- 'bolterlaw06.SerialSteps': WHATEVER THE INPUT: true; the input reads as it did. -/
def serialStepsSpec : ChangeSpec := { name := "serialSteps", fn := fun _ => fun
  | [d1, d2] => { results := [.lit (.bool true)], args := [d1, d2] }
  | _ => none }
def serialStepsRow : OpenClaim := { program := "ythhlgogokcblgab", sum := "a947a54d27c190bc0aa631647318aca2b3eabb813a7a8159a3cc53459d98b826", func := "bolter/bolterlaw06.SerialSteps", spec := "serialSteps", apart := false }
def SerialStepsSaid : Prop := serialStepsRow.holds Try.pinned (OpenSpec.ofChange serialStepsSpec)

/-- ITS FALSE NEIGHBOUR: 'it returns false'. Refute it at one input. -/
def serialStepsWrong : ChangeSpec := { name := "serialSteps", fn := fun _ => fun
  | [d1, d2] => { results := [.lit (.bool false)], args := [d1, d2] }
  | _ => none }
def SerialStepsWrongFalsely : Prop := serialStepsRow.holds Try.pinned (OpenSpec.ofChange serialStepsWrong)

/-- 'bolterlaw06.SerialTurn': WHATEVER THE INPUT: true; the input reads as it did. -/
def serialTurnSpec : ChangeSpec := { name := "serialTurn", fn := fun _ => fun
  | [d1, d2, d3] => { results := [.lit (.bool true)], args := [d1, d2, d3] }
  | _ => none }
def serialTurnRow : OpenClaim := { program := "ythhlgogokcblgab", sum := "a947a54d27c190bc0aa631647318aca2b3eabb813a7a8159a3cc53459d98b826", func := "bolter/bolterlaw06.SerialTurn", spec := "serialTurn", apart := false }
def SerialTurnSaid : Prop := serialTurnRow.holds Try.pinned (OpenSpec.ofChange serialTurnSpec)

/-- ITS FALSE NEIGHBOUR: 'it returns false'. Refute it at one input. -/
def serialTurnWrong : ChangeSpec := { name := "serialTurn", fn := fun _ => fun
  | [d1, d2, d3] => { results := [.lit (.bool false)], args := [d1, d2, d3] }
  | _ => none }
def SerialTurnWrongFalsely : Prop := serialTurnRow.holds Try.pinned (OpenSpec.ofChange serialTurnWrong)

/-- 'bolterlaw07.SoaData': WHATEVER THE INPUT: true; the input reads as it did. -/
def soaDataSpec : ChangeSpec := { name := "soaData", fn := fun _ => fun
  | [d1, d2, d3, d4, d5, d6] => { results := [.lit (.bool true)], args := [d1, d2, d3, d4, d5, d6] }
  | _ => none }
def soaDataRow : OpenClaim := { program := "ythhlgogokcblgab", sum := "a947a54d27c190bc0aa631647318aca2b3eabb813a7a8159a3cc53459d98b826", func := "bolter/bolterlaw07.SoaData", spec := "soaData", apart := false }
def SoaDataSaid : Prop := soaDataRow.holds Try.pinned (OpenSpec.ofChange soaDataSpec)

/-- ITS FALSE NEIGHBOUR: 'it returns false'. Refute it at one input. -/
def soaDataWrong : ChangeSpec := { name := "soaData", fn := fun _ => fun
  | [d1, d2, d3, d4, d5, d6] => { results := [.lit (.bool false)], args := [d1, d2, d3, d4, d5, d6] }
  | _ => none }
def SoaDataWrongFalsely : Prop := soaDataRow.holds Try.pinned (OpenSpec.ofChange soaDataWrong)

/-- 'bolterlaw07.SoaParse': WHATEVER THE INPUT: true; the input reads as it did. -/
def soaParseSpec : ChangeSpec := { name := "soaParse", fn := fun _ => fun
  | [d] => { results := [.lit (.bool true)], args := [d] }
  | _ => none }
def soaParseRow : OpenClaim := { program := "ythhlgogokcblgab", sum := "a947a54d27c190bc0aa631647318aca2b3eabb813a7a8159a3cc53459d98b826", func := "bolter/bolterlaw07.SoaParse", spec := "soaParse", apart := false }
def SoaParseSaid : Prop := soaParseRow.holds Try.pinned (OpenSpec.ofChange soaParseSpec)

/-- ITS FALSE NEIGHBOUR: 'it returns false'. Refute it at one input. -/
def soaParseWrong : ChangeSpec := { name := "soaParse", fn := fun _ => fun
  | [d] => { results := [.lit (.bool false)], args := [d] }
  | _ => none }
def SoaParseWrongFalsely : Prop := soaParseRow.holds Try.pinned (OpenSpec.ofChange soaParseWrong)

/-- 'bolterlaw07.SoaOf': WHATEVER THE INPUT: true; the input reads as it did. -/
def soaOfSpec : ChangeSpec := { name := "soaOf", fn := fun _ => fun
  | [d1, d2, d3] => { results := [.lit (.bool true)], args := [d1, d2, d3] }
  | _ => none }
def soaOfRow : OpenClaim := { program := "ythhlgogokcblgab", sum := "a947a54d27c190bc0aa631647318aca2b3eabb813a7a8159a3cc53459d98b826", func := "bolter/bolterlaw07.SoaOf", spec := "soaOf", apart := false }
def SoaOfSaid : Prop := soaOfRow.holds Try.pinned (OpenSpec.ofChange soaOfSpec)

/-- ITS FALSE NEIGHBOUR: 'it returns false'. Refute it at one input. -/
def soaOfWrong : ChangeSpec := { name := "soaOf", fn := fun _ => fun
  | [d1, d2, d3] => { results := [.lit (.bool false)], args := [d1, d2, d3] }
  | _ => none }
def SoaOfWrongFalsely : Prop := soaOfRow.holds Try.pinned (OpenSpec.ofChange soaOfWrong)

/-- 'bolterlaw07.SoaNames': WHATEVER THE INPUT: true; the input reads as it did. -/
def soaNamesSpec : ChangeSpec := { name := "soaNames", fn := fun _ => fun
  | [d1, d2] => { results := [.lit (.bool true)], args := [d1, d2] }
  | _ => none }
def soaNamesRow : OpenClaim := { program := "ythhlgogokcblgab", sum := "a947a54d27c190bc0aa631647318aca2b3eabb813a7a8159a3cc53459d98b826", func := "bolter/bolterlaw07.SoaNames", spec := "soaNames", apart := false }
def SoaNamesSaid : Prop := soaNamesRow.holds Try.pinned (OpenSpec.ofChange soaNamesSpec)

/-- ITS FALSE NEIGHBOUR: 'it returns false'. Refute it at one input. -/
def soaNamesWrong : ChangeSpec := { name := "soaNames", fn := fun _ => fun
  | [d1, d2] => { results := [.lit (.bool false)], args := [d1, d2] }
  | _ => none }
def SoaNamesWrongFalsely : Prop := soaNamesRow.holds Try.pinned (OpenSpec.ofChange soaNamesWrong)

/-- 'bolterlaw07.SoaTwo': WHATEVER THE INPUT: true; the input reads as it did. -/
def soaTwoSpec : ChangeSpec := { name := "soaTwo", fn := fun _ => fun
  | [d1, d2, d3, d4] => { results := [.lit (.bool true)], args := [d1, d2, d3, d4] }
  | _ => none }
def soaTwoRow : OpenClaim := { program := "ythhlgogokcblgab", sum := "a947a54d27c190bc0aa631647318aca2b3eabb813a7a8159a3cc53459d98b826", func := "bolter/bolterlaw07.SoaTwo", spec := "soaTwo", apart := false }
def SoaTwoSaid : Prop := soaTwoRow.holds Try.pinned (OpenSpec.ofChange soaTwoSpec)

/-- ITS FALSE NEIGHBOUR: 'it returns false'. Refute it at one input. -/
def soaTwoWrong : ChangeSpec := { name := "soaTwo", fn := fun _ => fun
  | [d1, d2, d3, d4] => { results := [.lit (.bool false)], args := [d1, d2, d3, d4] }
  | _ => none }
def SoaTwoWrongFalsely : Prop := soaTwoRow.holds Try.pinned (OpenSpec.ofChange soaTwoWrong)

/- THE SECOND FORM. 'bulk': how many values and letters a reading holds, each counted each time it is reached (what is shared counts as often as it is met; a slice's spare places count too). A statement '..UptoSaid' is the law's where the arguments, and the package variables that the reading takes, are together of bulk at most 1048576: NARROWER than '..Said'. Prove '..Said' where nothing that the law and all that it calls make is longer than what came in: it says more and counts as full. Else prove '..UptoSaid'. A law counts once. -/
mutual
def uptoBulk {H : Type} : DataW H → Nat
  | .lit (.string bytes) => bytes.length + 1
  | .lit _ => 1
  | .nil => 1
  | .ptr d => uptoBulk d + 1
  | .slice elems spare => uptoBulkAll elems + uptoBulkAll spare + 1
  | .agg parts => uptoBulkAll parts + 1
  | .iface _ d => uptoBulk d + 1
  | .map entries => uptoBulkEntries entries + 1
  | .held _ => 1
def uptoBulkAll {H : Type} : List (DataW H) → Nat
  | [] => 0
  | d :: r => uptoBulk d + uptoBulkAll r
def uptoBulkEntries {H : Type} : List (Lit × DataW H) → Nat
  | [] => 0
  | x :: r => uptoBulkEntry x + uptoBulkEntries r
def uptoBulkEntry {H : Type} : Lit × DataW H → Nat
  | (.string bytes, d) => bytes.length + uptoBulk d + 1
  | (_, d) => uptoBulk d + 1
 end
def uptoSmall : (H : Type) → List (DataW H) → Bool := fun _ ds => decide (uptoBulkAll ds ≤ 1048576)
def OpenSpec.upto (s : _root_.Go.ChangeSpec) : _root_.Go.OpenSpec := { _root_.Go.OpenSpec.ofChange s with cond := some uptoSmall }

/-- 'bolterlaw02.NameJoin', WHERE WHAT IT READS IS OF BULK AT MOST 1048576: true; the input reads as it did. -/
def nameJoinUptoRow : OpenClaim := { program := "ythhlgogokcblgab", sum := "a947a54d27c190bc0aa631647318aca2b3eabb813a7a8159a3cc53459d98b826", func := "bolter/bolterlaw02.NameJoin", spec := "nameJoin", inPlace := ["internal/abi.NoEscape"], apart := false, narrowed := true }
def NameJoinUptoSaid : Prop := nameJoinUptoRow.holds Try.pinned (OpenSpec.upto nameJoinSpec)

/-- 'bolterlaw06.SerialLater', WHERE WHAT IT READS IS OF BULK AT MOST 1048576: true; the input reads as it did. -/
def serialLaterUptoRow : OpenClaim := { program := "ythhlgogokcblgab", sum := "a947a54d27c190bc0aa631647318aca2b3eabb813a7a8159a3cc53459d98b826", func := "bolter/bolterlaw06.SerialLater", spec := "serialLater", apart := false, narrowed := true }
def SerialLaterUptoSaid : Prop := serialLaterUptoRow.holds Try.pinned (OpenSpec.upto serialLaterSpec)

/-- 'bolterlaw06.SerialAdd', WHERE WHAT IT READS IS OF BULK AT MOST 1048576: true; the input reads as it did. -/
def serialAddUptoRow : OpenClaim := { program := "ythhlgogokcblgab", sum := "a947a54d27c190bc0aa631647318aca2b3eabb813a7a8159a3cc53459d98b826", func := "bolter/bolterlaw06.SerialAdd", spec := "serialAdd", apart := false, narrowed := true }
def SerialAddUptoSaid : Prop := serialAddUptoRow.holds Try.pinned (OpenSpec.upto serialAddSpec)

/-- 'bolterlaw06.SerialLast', WHERE WHAT IT READS IS OF BULK AT MOST 1048576: true; the input reads as it did. -/
def serialLastUptoRow : OpenClaim := { program := "ythhlgogokcblgab", sum := "a947a54d27c190bc0aa631647318aca2b3eabb813a7a8159a3cc53459d98b826", func := "bolter/bolterlaw06.SerialLast", spec := "serialLast", apart := false, narrowed := true }
def SerialLastUptoSaid : Prop := serialLastUptoRow.holds Try.pinned (OpenSpec.upto serialLastSpec)

/-- 'bolterlaw06.SerialSteps', WHERE WHAT IT READS IS OF BULK AT MOST 1048576: true; the input reads as it did. -/
def serialStepsUptoRow : OpenClaim := { program := "ythhlgogokcblgab", sum := "a947a54d27c190bc0aa631647318aca2b3eabb813a7a8159a3cc53459d98b826", func := "bolter/bolterlaw06.SerialSteps", spec := "serialSteps", apart := false, narrowed := true }
def SerialStepsUptoSaid : Prop := serialStepsUptoRow.holds Try.pinned (OpenSpec.upto serialStepsSpec)

/-- 'bolterlaw06.SerialTurn', WHERE WHAT IT READS IS OF BULK AT MOST 1048576: true; the input reads as it did. -/
def serialTurnUptoRow : OpenClaim := { program := "ythhlgogokcblgab", sum := "a947a54d27c190bc0aa631647318aca2b3eabb813a7a8159a3cc53459d98b826", func := "bolter/bolterlaw06.SerialTurn", spec := "serialTurn", apart := false, narrowed := true }
def SerialTurnUptoSaid : Prop := serialTurnUptoRow.holds Try.pinned (OpenSpec.upto serialTurnSpec)

/-- 'bolterlaw07.SoaData', WHERE WHAT IT READS IS OF BULK AT MOST 1048576: true; the input reads as it did. -/
def soaDataUptoRow : OpenClaim := { program := "ythhlgogokcblgab", sum := "a947a54d27c190bc0aa631647318aca2b3eabb813a7a8159a3cc53459d98b826", func := "bolter/bolterlaw07.SoaData", spec := "soaData", apart := false, narrowed := true }
def SoaDataUptoSaid : Prop := soaDataUptoRow.holds Try.pinned (OpenSpec.upto soaDataSpec)

/-- 'bolterlaw07.SoaParse', WHERE WHAT IT READS IS OF BULK AT MOST 1048576: true; the input reads as it did. -/
def soaParseUptoRow : OpenClaim := { program := "ythhlgogokcblgab", sum := "a947a54d27c190bc0aa631647318aca2b3eabb813a7a8159a3cc53459d98b826", func := "bolter/bolterlaw07.SoaParse", spec := "soaParse", apart := false, narrowed := true }
def SoaParseUptoSaid : Prop := soaParseUptoRow.holds Try.pinned (OpenSpec.upto soaParseSpec)

/-- 'bolterlaw07.SoaOf', WHERE WHAT IT READS IS OF BULK AT MOST 1048576: true; the input reads as it did. -/
def soaOfUptoRow : OpenClaim := { program := "ythhlgogokcblgab", sum := "a947a54d27c190bc0aa631647318aca2b3eabb813a7a8159a3cc53459d98b826", func := "bolter/bolterlaw07.SoaOf", spec := "soaOf", apart := false, narrowed := true }
def SoaOfUptoSaid : Prop := soaOfUptoRow.holds Try.pinned (OpenSpec.upto soaOfSpec)

/-- 'bolterlaw07.SoaNames', WHERE WHAT IT READS IS OF BULK AT MOST 1048576: true; the input reads as it did. -/
def soaNamesUptoRow : OpenClaim := { program := "ythhlgogokcblgab", sum := "a947a54d27c190bc0aa631647318aca2b3eabb813a7a8159a3cc53459d98b826", func := "bolter/bolterlaw07.SoaNames", spec := "soaNames", apart := false, narrowed := true }
def SoaNamesUptoSaid : Prop := soaNamesUptoRow.holds Try.pinned (OpenSpec.upto soaNamesSpec)

/-- 'bolterlaw07.SoaTwo', WHERE WHAT IT READS IS OF BULK AT MOST 1048576: true; the input reads as it did. -/
def soaTwoUptoRow : OpenClaim := { program := "ythhlgogokcblgab", sum := "a947a54d27c190bc0aa631647318aca2b3eabb813a7a8159a3cc53459d98b826", func := "bolter/bolterlaw07.SoaTwo", spec := "soaTwo", apart := false, narrowed := true }
def SoaTwoUptoSaid : Prop := soaTwoUptoRow.holds Try.pinned (OpenSpec.upto soaTwoSpec)

end Rows
end Go.Proofs.Ythhlgogokcblgab
