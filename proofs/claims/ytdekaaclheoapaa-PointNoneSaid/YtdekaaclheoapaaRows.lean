/-
  No cell of these rows narrows 'for every input' (looked for: loops, veiled, ifaces, maps, wideKeys, modest, calm, conditions, laid).
  DERIVED. THE GIVEN ROWS OF THIS SEAT. 12 by the template 'for every input the law returns true; each argument reads behind the call as it read before'; 0 by the template 'total and deterministic' (their statements: YtdekaaclheoapaaTotals.lean).
  GIVEN WITH THE SEED: the statements are not yours to turn. If you find one false, say at which input.
  Laid BY PROGRAM, IN A SANDBOX (cutbox-rows.mjs): the forced cells as the released guide's own fill.sh prints them over the translation c8f4231e6a3b0551… (all of the seat's roots in one cut). By AI agents, Wed Nov 11 2026. No macro, syntax, notation, axiom, sorry.
-/
import Derived.Test.YtdekaaclheoapaaChecked
import GoSem.Claim
import GoSem.ClaimJoined
import GoSem.ClaimMapViews
import Derived.JoinedTies
import Derived.KernelRfl
namespace Go.Proofs.Ytdekaaclheoapaa
/- THE CELL 'sum', in the pinned program and in every row, IS THE sha256 OF THE DUMP (.gsa) THAT YtdekaaclheoapaaProg.lean LOADS. Nothing in Lean hashes anything: it is a label: what it is worth is what the hold of that sum in a sandbox is worth. -/
noncomputable def Try.pinned : Pinned := { name := "ytdekaaclheoapaa", sum := "c8f4231e6a3b0551921625767bee8e34a20737ca510ecb4695b697a8afc4759f", checked := Try.checked }
namespace Rows
def none {H : Type} : Left H := { results := [], args := [] }

/-- 'bolterlaw07.SoaData': WHATEVER THE INPUT: true; the input reads as it did. -/
def soaDataSpec : ChangeSpec := { name := "soaData", fn := fun _ => fun
  | [d1, d2, d3, d4, d5, d6] => { results := [.lit (.bool true)], args := [d1, d2, d3, d4, d5, d6] }
  | _ => none }
def soaDataRow : OpenClaim := { program := "ytdekaaclheoapaa", sum := "c8f4231e6a3b0551921625767bee8e34a20737ca510ecb4695b697a8afc4759f", func := "bolter/bolterlaw07.SoaData", spec := "soaData", apart := false }
def SoaDataSaid : Prop := soaDataRow.holds Try.pinned (OpenSpec.ofChange soaDataSpec)

/-- ITS FALSE NEIGHBOUR: 'it returns false'. Refute it at one input. -/
def soaDataWrong : ChangeSpec := { name := "soaData", fn := fun _ => fun
  | [d1, d2, d3, d4, d5, d6] => { results := [.lit (.bool false)], args := [d1, d2, d3, d4, d5, d6] }
  | _ => none }
def SoaDataWrongFalsely : Prop := soaDataRow.holds Try.pinned (OpenSpec.ofChange soaDataWrong)

/-- 'bolterlaw07.SoaParse': WHATEVER THE INPUT: true; the input reads as it did. -/
def soaParseSpec : ChangeSpec := { name := "soaParse", fn := fun _ => fun
  | [d] => { results := [.lit (.bool true)], args := [d] }
  | _ => none }
def soaParseRow : OpenClaim := { program := "ytdekaaclheoapaa", sum := "c8f4231e6a3b0551921625767bee8e34a20737ca510ecb4695b697a8afc4759f", func := "bolter/bolterlaw07.SoaParse", spec := "soaParse", apart := false }
def SoaParseSaid : Prop := soaParseRow.holds Try.pinned (OpenSpec.ofChange soaParseSpec)

/-- ITS FALSE NEIGHBOUR: 'it returns false'. Refute it at one input. -/
def soaParseWrong : ChangeSpec := { name := "soaParse", fn := fun _ => fun
  | [d] => { results := [.lit (.bool false)], args := [d] }
  | _ => none }
def SoaParseWrongFalsely : Prop := soaParseRow.holds Try.pinned (OpenSpec.ofChange soaParseWrong)

/-- 'bolterlaw07.SoaOf': WHATEVER THE INPUT: true; the input reads as it did. -/
def soaOfSpec : ChangeSpec := { name := "soaOf", fn := fun _ => fun
  | [d1, d2, d3] => { results := [.lit (.bool true)], args := [d1, d2, d3] }
  | _ => none }
def soaOfRow : OpenClaim := { program := "ytdekaaclheoapaa", sum := "c8f4231e6a3b0551921625767bee8e34a20737ca510ecb4695b697a8afc4759f", func := "bolter/bolterlaw07.SoaOf", spec := "soaOf", apart := false }
def SoaOfSaid : Prop := soaOfRow.holds Try.pinned (OpenSpec.ofChange soaOfSpec)

/-- ITS FALSE NEIGHBOUR: 'it returns false'. Refute it at one input. -/
def soaOfWrong : ChangeSpec := { name := "soaOf", fn := fun _ => fun
  | [d1, d2, d3] => { results := [.lit (.bool false)], args := [d1, d2, d3] }
  | _ => none }
def SoaOfWrongFalsely : Prop := soaOfRow.holds Try.pinned (OpenSpec.ofChange soaOfWrong)

/-- 'bolterlaw07.SoaNames': WHATEVER THE INPUT: true; the input reads as it did. -/
def soaNamesSpec : ChangeSpec := { name := "soaNames", fn := fun _ => fun
  | [d1, d2] => { results := [.lit (.bool true)], args := [d1, d2] }
  | _ => none }
def soaNamesRow : OpenClaim := { program := "ytdekaaclheoapaa", sum := "c8f4231e6a3b0551921625767bee8e34a20737ca510ecb4695b697a8afc4759f", func := "bolter/bolterlaw07.SoaNames", spec := "soaNames", apart := false }
def SoaNamesSaid : Prop := soaNamesRow.holds Try.pinned (OpenSpec.ofChange soaNamesSpec)

/-- ITS FALSE NEIGHBOUR: 'it returns false'. Refute it at one input. -/
def soaNamesWrong : ChangeSpec := { name := "soaNames", fn := fun _ => fun
  | [d1, d2] => { results := [.lit (.bool false)], args := [d1, d2] }
  | _ => none }
def SoaNamesWrongFalsely : Prop := soaNamesRow.holds Try.pinned (OpenSpec.ofChange soaNamesWrong)

/-- 'bolterlaw07.SoaTwo': WHATEVER THE INPUT: true; the input reads as it did. -/
def soaTwoSpec : ChangeSpec := { name := "soaTwo", fn := fun _ => fun
  | [d1, d2, d3, d4] => { results := [.lit (.bool true)], args := [d1, d2, d3, d4] }
  | _ => none }
def soaTwoRow : OpenClaim := { program := "ytdekaaclheoapaa", sum := "c8f4231e6a3b0551921625767bee8e34a20737ca510ecb4695b697a8afc4759f", func := "bolter/bolterlaw07.SoaTwo", spec := "soaTwo", apart := false }
def SoaTwoSaid : Prop := soaTwoRow.holds Try.pinned (OpenSpec.ofChange soaTwoSpec)

/-- ITS FALSE NEIGHBOUR: 'it returns false'. Refute it at one input. -/
def soaTwoWrong : ChangeSpec := { name := "soaTwo", fn := fun _ => fun
  | [d1, d2, d3, d4] => { results := [.lit (.bool false)], args := [d1, d2, d3, d4] }
  | _ => none }
def SoaTwoWrongFalsely : Prop := soaTwoRow.holds Try.pinned (OpenSpec.ofChange soaTwoWrong)

/-- 'bolterlaw18.RankOf': WHATEVER THE INPUT: true; the input reads as it did. -/
def rankOfSpec : ChangeSpec := { name := "rankOf", fn := fun _ => fun
  | [d1, d2, d3, d4, d5] => { results := [.lit (.bool true)], args := [d1, d2, d3, d4, d5] }
  | _ => none }
def rankOfRow : OpenClaim := { program := "ytdekaaclheoapaa", sum := "c8f4231e6a3b0551921625767bee8e34a20737ca510ecb4695b697a8afc4759f", func := "bolter/bolterlaw18.RankOf", spec := "rankOf", apart := false }
def RankOfSaid : Prop := rankOfRow.holds Try.pinned (OpenSpec.ofChange rankOfSpec)

/-- ITS FALSE NEIGHBOUR: 'it returns false'. Refute it at one input. -/
def rankOfWrong : ChangeSpec := { name := "rankOf", fn := fun _ => fun
  | [d1, d2, d3, d4, d5] => { results := [.lit (.bool false)], args := [d1, d2, d3, d4, d5] }
  | _ => none }
def RankOfWrongFalsely : Prop := rankOfRow.holds Try.pinned (OpenSpec.ofChange rankOfWrong)

/-- 'bolterlaw18.RankBetter': WHATEVER THE INPUT: true; the input reads as it did. -/
def rankBetterSpec : ChangeSpec := { name := "rankBetter", fn := fun _ => fun
  | [d1, d2, d3, d4] => { results := [.lit (.bool true)], args := [d1, d2, d3, d4] }
  | _ => none }
def rankBetterRow : OpenClaim := { program := "ytdekaaclheoapaa", sum := "c8f4231e6a3b0551921625767bee8e34a20737ca510ecb4695b697a8afc4759f", func := "bolter/bolterlaw18.RankBetter", spec := "rankBetter", apart := false }
def RankBetterSaid : Prop := rankBetterRow.holds Try.pinned (OpenSpec.ofChange rankBetterSpec)

/-- ITS FALSE NEIGHBOUR: 'it returns false'. Refute it at one input. -/
def rankBetterWrong : ChangeSpec := { name := "rankBetter", fn := fun _ => fun
  | [d1, d2, d3, d4] => { results := [.lit (.bool false)], args := [d1, d2, d3, d4] }
  | _ => none }
def RankBetterWrongFalsely : Prop := rankBetterRow.holds Try.pinned (OpenSpec.ofChange rankBetterWrong)

/-- 'bolterlaw03.PointCut': WHATEVER THE INPUT: true; the input reads as it did. -/
def pointCutSpec : ChangeSpec := { name := "pointCut", fn := fun _ => fun
  | [d1, d2, d3] => { results := [.lit (.bool true)], args := [d1, d2, d3] }
  | _ => none }
def pointCutRow : OpenClaim := { program := "ytdekaaclheoapaa", sum := "c8f4231e6a3b0551921625767bee8e34a20737ca510ecb4695b697a8afc4759f", func := "bolter/bolterlaw03.PointCut", spec := "pointCut", apart := false }
def PointCutSaid : Prop := pointCutRow.holds Try.pinned (OpenSpec.ofChange pointCutSpec)

/-- ITS FALSE NEIGHBOUR: 'it returns false'. Refute it at one input. -/
def pointCutWrong : ChangeSpec := { name := "pointCut", fn := fun _ => fun
  | [d1, d2, d3] => { results := [.lit (.bool false)], args := [d1, d2, d3] }
  | _ => none }
def PointCutWrongFalsely : Prop := pointCutRow.holds Try.pinned (OpenSpec.ofChange pointCutWrong)

/-- 'bolterlaw03.PointNone': WHATEVER THE INPUT: true; the input reads as it did. -/
def pointNoneSpec : ChangeSpec := { name := "pointNone", fn := fun _ => fun
  | [d] => { results := [.lit (.bool true)], args := [d] }
  | _ => none }
def pointNoneRow : OpenClaim := { program := "ytdekaaclheoapaa", sum := "c8f4231e6a3b0551921625767bee8e34a20737ca510ecb4695b697a8afc4759f", func := "bolter/bolterlaw03.PointNone", spec := "pointNone", apart := false }
def PointNoneSaid : Prop := pointNoneRow.holds Try.pinned (OpenSpec.ofChange pointNoneSpec)

/-- ITS FALSE NEIGHBOUR: 'it returns false'. Refute it at one input. -/
def pointNoneWrong : ChangeSpec := { name := "pointNone", fn := fun _ => fun
  | [d] => { results := [.lit (.bool false)], args := [d] }
  | _ => none }
def PointNoneWrongFalsely : Prop := pointNoneRow.holds Try.pinned (OpenSpec.ofChange pointNoneWrong)

/-- 'bolterlaw22.FrameAll': WHATEVER THE INPUT: true; the input reads as it did. -/
def frameAllSpec : ChangeSpec := { name := "frameAll", fn := fun _ => fun
  | [d1, d2] => { results := [.lit (.bool true)], args := [d1, d2] }
  | _ => none }
def frameAllRow : OpenClaim := { program := "ytdekaaclheoapaa", sum := "c8f4231e6a3b0551921625767bee8e34a20737ca510ecb4695b697a8afc4759f", func := "bolter/bolterlaw22.FrameAll", spec := "frameAll", apart := false }
def FrameAllSaid : Prop := frameAllRow.holds Try.pinned (OpenSpec.ofChange frameAllSpec)

/-- ITS FALSE NEIGHBOUR: 'it returns false'. Refute it at one input. -/
def frameAllWrong : ChangeSpec := { name := "frameAll", fn := fun _ => fun
  | [d1, d2] => { results := [.lit (.bool false)], args := [d1, d2] }
  | _ => none }
def FrameAllWrongFalsely : Prop := frameAllRow.holds Try.pinned (OpenSpec.ofChange frameAllWrong)

/-- 'bolterlaw14.ActionGoal': WHATEVER THE INPUT: true; the input reads as it did. -/
def actionGoalSpec : ChangeSpec := { name := "actionGoal", fn := fun _ => fun
  | [d1, d2, d3, d4, d5] => { results := [.lit (.bool true)], args := [d1, d2, d3, d4, d5] }
  | _ => none }
def actionGoalRow : OpenClaim := { program := "ytdekaaclheoapaa", sum := "c8f4231e6a3b0551921625767bee8e34a20737ca510ecb4695b697a8afc4759f", func := "bolter/bolterlaw14.ActionGoal", spec := "actionGoal", apart := false }
def ActionGoalSaid : Prop := actionGoalRow.holds Try.pinned (OpenSpec.ofChange actionGoalSpec)

/-- ITS FALSE NEIGHBOUR: 'it returns false'. Refute it at one input. -/
def actionGoalWrong : ChangeSpec := { name := "actionGoal", fn := fun _ => fun
  | [d1, d2, d3, d4, d5] => { results := [.lit (.bool false)], args := [d1, d2, d3, d4, d5] }
  | _ => none }
def ActionGoalWrongFalsely : Prop := actionGoalRow.holds Try.pinned (OpenSpec.ofChange actionGoalWrong)

/-- 'bolterlaw14.ActionOver': WHATEVER THE INPUT: true; the input reads as it did. -/
def actionOverSpec : ChangeSpec := { name := "actionOver", fn := fun _ => fun
  | [d1, d2, d3, d4] => { results := [.lit (.bool true)], args := [d1, d2, d3, d4] }
  | _ => none }
def actionOverRow : OpenClaim := { program := "ytdekaaclheoapaa", sum := "c8f4231e6a3b0551921625767bee8e34a20737ca510ecb4695b697a8afc4759f", func := "bolter/bolterlaw14.ActionOver", spec := "actionOver", apart := false }
def ActionOverSaid : Prop := actionOverRow.holds Try.pinned (OpenSpec.ofChange actionOverSpec)

/-- ITS FALSE NEIGHBOUR: 'it returns false'. Refute it at one input. -/
def actionOverWrong : ChangeSpec := { name := "actionOver", fn := fun _ => fun
  | [d1, d2, d3, d4] => { results := [.lit (.bool false)], args := [d1, d2, d3, d4] }
  | _ => none }
def ActionOverWrongFalsely : Prop := actionOverRow.holds Try.pinned (OpenSpec.ofChange actionOverWrong)

/- THE SECOND FORM. 'bulk': how many values and letters a reading holds, each counted each time it is reached (what is shared counts as often as it is met; a slice's spare places count too). A statement '..UptoSaid' is the law's where the arguments, and the package variables that the reading takes, are together of bulk at most 1048576: NARROWER than '..Said'. Prove '..Said' where nothing that the law and all that it calls make is longer than what came in: it says more and counts as full. Else prove '..UptoSaid'. A law counts once. -/
mutual
def uptoBulk {H : Type} : DataW H → Nat
  | .lit (.string bytes) => bytes.length + 1
  | .lit _ => 1
  | .nil => 1
  | .ptr d => uptoBulk d + 1
  | .slice elems spare => uptoBulkAll elems + uptoBulkAll spare + 1
  | .agg parts => uptoBulkAll parts + 1
  | .iface _ d => uptoBulk d + 1
  | .map entries => uptoBulkEntries entries + 1
  | .held _ => 1
def uptoBulkAll {H : Type} : List (DataW H) → Nat
  | [] => 0
  | d :: r => uptoBulk d + uptoBulkAll r
def uptoBulkEntries {H : Type} : List (Lit × DataW H) → Nat
  | [] => 0
  | x :: r => uptoBulkEntry x + uptoBulkEntries r
def uptoBulkEntry {H : Type} : Lit × DataW H → Nat
  | (.string bytes, d) => bytes.length + uptoBulk d + 1
  | (_, d) => uptoBulk d + 1
 end
def uptoSmall : (H : Type) → List (DataW H) → Bool := fun _ ds => decide (uptoBulkAll ds ≤ 1048576)
def OpenSpec.upto (s : _root_.Go.ChangeSpec) : _root_.Go.OpenSpec := { _root_.Go.OpenSpec.ofChange s with cond := some uptoSmall }

/-- 'bolterlaw07.SoaData', WHERE WHAT IT READS IS OF BULK AT MOST 1048576: true; the input reads as it did. -/
def soaDataUptoRow : OpenClaim := { program := "ytdekaaclheoapaa", sum := "c8f4231e6a3b0551921625767bee8e34a20737ca510ecb4695b697a8afc4759f", func := "bolter/bolterlaw07.SoaData", spec := "soaData", apart := false, narrowed := true }
def SoaDataUptoSaid : Prop := soaDataUptoRow.holds Try.pinned (OpenSpec.upto soaDataSpec)

/-- 'bolterlaw07.SoaParse', WHERE WHAT IT READS IS OF BULK AT MOST 1048576: true; the input reads as it did. -/
def soaParseUptoRow : OpenClaim := { program := "ytdekaaclheoapaa", sum := "c8f4231e6a3b0551921625767bee8e34a20737ca510ecb4695b697a8afc4759f", func := "bolter/bolterlaw07.SoaParse", spec := "soaParse", apart := false, narrowed := true }
def SoaParseUptoSaid : Prop := soaParseUptoRow.holds Try.pinned (OpenSpec.upto soaParseSpec)

/-- 'bolterlaw07.SoaOf', WHERE WHAT IT READS IS OF BULK AT MOST 1048576: true; the input reads as it did. -/
def soaOfUptoRow : OpenClaim := { program := "ytdekaaclheoapaa", sum := "c8f4231e6a3b0551921625767bee8e34a20737ca510ecb4695b697a8afc4759f", func := "bolter/bolterlaw07.SoaOf", spec := "soaOf", apart := false, narrowed := true }
def SoaOfUptoSaid : Prop := soaOfUptoRow.holds Try.pinned (OpenSpec.upto soaOfSpec)

/-- 'bolterlaw07.SoaNames', WHERE WHAT IT READS IS OF BULK AT MOST 1048576: true; the input reads as it did. -/
def soaNamesUptoRow : OpenClaim := { program := "ytdekaaclheoapaa", sum := "c8f4231e6a3b0551921625767bee8e34a20737ca510ecb4695b697a8afc4759f", func := "bolter/bolterlaw07.SoaNames", spec := "soaNames", apart := false, narrowed := true }
def SoaNamesUptoSaid : Prop := soaNamesUptoRow.holds Try.pinned (OpenSpec.upto soaNamesSpec)

/-- 'bolterlaw07.SoaTwo', WHERE WHAT IT READS IS OF BULK AT MOST 1048576: true; the input reads as it did. -/
def soaTwoUptoRow : OpenClaim := { program := "ytdekaaclheoapaa", sum := "c8f4231e6a3b0551921625767bee8e34a20737ca510ecb4695b697a8afc4759f", func := "bolter/bolterlaw07.SoaTwo", spec := "soaTwo", apart := false, narrowed := true }
def SoaTwoUptoSaid : Prop := soaTwoUptoRow.holds Try.pinned (OpenSpec.upto soaTwoSpec)

/-- 'bolterlaw18.RankOf', WHERE WHAT IT READS IS OF BULK AT MOST 1048576: true; the input reads as it did. -/
def rankOfUptoRow : OpenClaim := { program := "ytdekaaclheoapaa", sum := "c8f4231e6a3b0551921625767bee8e34a20737ca510ecb4695b697a8afc4759f", func := "bolter/bolterlaw18.RankOf", spec := "rankOf", apart := false, narrowed := true }
def RankOfUptoSaid : Prop := rankOfUptoRow.holds Try.pinned (OpenSpec.upto rankOfSpec)

/-- 'bolterlaw18.RankBetter', WHERE WHAT IT READS IS OF BULK AT MOST 1048576: true; the input reads as it did. -/
def rankBetterUptoRow : OpenClaim := { program := "ytdekaaclheoapaa", sum := "c8f4231e6a3b0551921625767bee8e34a20737ca510ecb4695b697a8afc4759f", func := "bolter/bolterlaw18.RankBetter", spec := "rankBetter", apart := false, narrowed := true }
def RankBetterUptoSaid : Prop := rankBetterUptoRow.holds Try.pinned (OpenSpec.upto rankBetterSpec)

/-- 'bolterlaw03.PointCut', WHERE WHAT IT READS IS OF BULK AT MOST 1048576: true; the input reads as it did. -/
def pointCutUptoRow : OpenClaim := { program := "ytdekaaclheoapaa", sum := "c8f4231e6a3b0551921625767bee8e34a20737ca510ecb4695b697a8afc4759f", func := "bolter/bolterlaw03.PointCut", spec := "pointCut", apart := false, narrowed := true }
def PointCutUptoSaid : Prop := pointCutUptoRow.holds Try.pinned (OpenSpec.upto pointCutSpec)

/-- 'bolterlaw03.PointNone', WHERE WHAT IT READS IS OF BULK AT MOST 1048576: true; the input reads as it did. -/
def pointNoneUptoRow : OpenClaim := { program := "ytdekaaclheoapaa", sum := "c8f4231e6a3b0551921625767bee8e34a20737ca510ecb4695b697a8afc4759f", func := "bolter/bolterlaw03.PointNone", spec := "pointNone", apart := false, narrowed := true }
def PointNoneUptoSaid : Prop := pointNoneUptoRow.holds Try.pinned (OpenSpec.upto pointNoneSpec)

/-- 'bolterlaw22.FrameAll', WHERE WHAT IT READS IS OF BULK AT MOST 1048576: true; the input reads as it did. -/
def frameAllUptoRow : OpenClaim := { program := "ytdekaaclheoapaa", sum := "c8f4231e6a3b0551921625767bee8e34a20737ca510ecb4695b697a8afc4759f", func := "bolter/bolterlaw22.FrameAll", spec := "frameAll", apart := false, narrowed := true }
def FrameAllUptoSaid : Prop := frameAllUptoRow.holds Try.pinned (OpenSpec.upto frameAllSpec)

/-- 'bolterlaw14.ActionGoal', WHERE WHAT IT READS IS OF BULK AT MOST 1048576: true; the input reads as it did. -/
def actionGoalUptoRow : OpenClaim := { program := "ytdekaaclheoapaa", sum := "c8f4231e6a3b0551921625767bee8e34a20737ca510ecb4695b697a8afc4759f", func := "bolter/bolterlaw14.ActionGoal", spec := "actionGoal", apart := false, narrowed := true }
def ActionGoalUptoSaid : Prop := actionGoalUptoRow.holds Try.pinned (OpenSpec.upto actionGoalSpec)

/-- 'bolterlaw14.ActionOver', WHERE WHAT IT READS IS OF BULK AT MOST 1048576: true; the input reads as it did. -/
def actionOverUptoRow : OpenClaim := { program := "ytdekaaclheoapaa", sum := "c8f4231e6a3b0551921625767bee8e34a20737ca510ecb4695b697a8afc4759f", func := "bolter/bolterlaw14.ActionOver", spec := "actionOver", apart := false, narrowed := true }
def ActionOverUptoSaid : Prop := actionOverUptoRow.holds Try.pinned (OpenSpec.upto actionOverSpec)

end Rows
end Go.Proofs.Ytdekaaclheoapaa
