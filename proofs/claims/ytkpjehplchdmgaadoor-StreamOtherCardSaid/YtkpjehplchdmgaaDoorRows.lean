/-
  NARROWER THAN 'FOR EVERY INPUT', by the rows' own cells (each row's printed sentence says how): StreamFull: laid · StreamPart: laid · StreamChain: laid · StreamOther: laid.
  DERIVED. THE GIVEN ROWS OF THIS SEAT. 4 by the template 'for every input the law returns true; each argument reads behind the call as it read before'; 0 by the template 'total and deterministic' (their statements: YtkpjehplchdmgaaDoorTotals.lean).
  GIVEN WITH THE SEED: the statements are not yours to turn. If you find one false, say at which input.
  Laid BY PROGRAM, IN A SANDBOX (cutbox-rows.mjs): the forced cells as the released guide's own fill.sh prints them over the translation efa38e4e50b306de… (all of the seat's roots in one cut). By AI agents, Wed Nov 11 2026. No macro, syntax, notation, axiom, sorry.
-/
import Derived.Test.YtkpjehplchdmgaaDoorChecked
import GoSem.Claim
import GoSem.ClaimJoined
import GoSem.ClaimMapViews
import Derived.JoinedTies
import Derived.KernelRfl
namespace Go.Proofs.YtkpjehplchdmgaaDoor
/- THE CELL 'sum', in the pinned program and in every row, IS THE sha256 OF THE DUMP (.gsa) THAT YtkpjehplchdmgaaDoorProg.lean LOADS. Nothing in Lean hashes anything: it is a label: what it is worth is what the hold of that sum in a sandbox is worth. -/
noncomputable def Tryd.pinned : Pinned := { name := "ytkpjehplchdmgaadoor", sum := "efa38e4e50b306de991cc2d88fe3d3d5023dfabd17922e9187642712cec55785", checked := Tryd.checked }
namespace Rows
def none {H : Type} : Left H := { results := [], args := [] }

/- WHAT THE LISTED PACKAGE-LEVEL VARIABLES READ AS WHEN THE CALL BEGINS. Each datum BY PROGRAM (the guide's laid-datum.mjs) off the statement by which the dump's own 'gosem.cut.vars' lays the variable. In a bare row this is a premise. The card (YtkpjehplchdmgaaDoorCards.lean) ties it to the program's text. -/
def laid_errors_errorType {H : Type} : DataW H := .iface "internal/reflectlite.rtype" (.agg [.ptr (.lit (.string [101, 114, 114, 111, 114]))])

/-- 'bolterlaw09.StreamFull': WHATEVER THE INPUT: true; the input reads as it did. -/
def streamFullSpec : ChangeSpec := { name := "streamFull", fn := fun _ => fun
  | [d1, d2, d3] => { results := [.lit (.bool true)], args := [d1, d2, d3] }
  | _ => none }
def streamFullRow : OpenClaim := { program := "ytkpjehplchdmgaadoor", sum := "efa38e4e50b306de991cc2d88fe3d3d5023dfabd17922e9187642712cec55785", func := "bolter/bolterlaw09.StreamFull", spec := "streamFull", inPlace := ["internal/reflectlite.ValueOf", "(internal/reflectlite.Value).Type", "(internal/reflectlite.Value).IsNil", "internal/reflectlite.TypeOf", "(internal/reflectlite.Value).Elem", "(internal/reflectlite.Value).Set"], unfollowed := true, recurses := true, named := ["errors.errorType"], apart := false, laid := [("errors.errorType", laid_errors_errorType)] }
def StreamFullSaid : Prop := streamFullRow.holds Tryd.pinned (OpenSpec.ofChange streamFullSpec)

/-- ITS FALSE NEIGHBOUR: 'it returns false'. Refute it at one input. -/
def streamFullWrong : ChangeSpec := { name := "streamFull", fn := fun _ => fun
  | [d1, d2, d3] => { results := [.lit (.bool false)], args := [d1, d2, d3] }
  | _ => none }
def StreamFullWrongFalsely : Prop := streamFullRow.holds Tryd.pinned (OpenSpec.ofChange streamFullWrong)

/-- 'bolterlaw09.StreamPart': WHATEVER THE INPUT: true; the input reads as it did. -/
def streamPartSpec : ChangeSpec := { name := "streamPart", fn := fun _ => fun
  | [d1, d2, d3] => { results := [.lit (.bool true)], args := [d1, d2, d3] }
  | _ => none }
def streamPartRow : OpenClaim := { program := "ytkpjehplchdmgaadoor", sum := "efa38e4e50b306de991cc2d88fe3d3d5023dfabd17922e9187642712cec55785", func := "bolter/bolterlaw09.StreamPart", spec := "streamPart", inPlace := ["internal/reflectlite.ValueOf", "(internal/reflectlite.Value).Type", "(internal/reflectlite.Value).IsNil", "internal/reflectlite.TypeOf", "(internal/reflectlite.Value).Elem", "(internal/reflectlite.Value).Set"], unfollowed := true, recurses := true, named := ["errors.errorType"], apart := false, laid := [("errors.errorType", laid_errors_errorType)] }
def StreamPartSaid : Prop := streamPartRow.holds Tryd.pinned (OpenSpec.ofChange streamPartSpec)

/-- ITS FALSE NEIGHBOUR: 'it returns false'. Refute it at one input. -/
def streamPartWrong : ChangeSpec := { name := "streamPart", fn := fun _ => fun
  | [d1, d2, d3] => { results := [.lit (.bool false)], args := [d1, d2, d3] }
  | _ => none }
def StreamPartWrongFalsely : Prop := streamPartRow.holds Tryd.pinned (OpenSpec.ofChange streamPartWrong)

/-- 'bolterlaw09.StreamChain': WHATEVER THE INPUT: true; the input reads as it did. -/
def streamChainSpec : ChangeSpec := { name := "streamChain", fn := fun _ => fun
  | [d1, d2, d3] => { results := [.lit (.bool true)], args := [d1, d2, d3] }
  | _ => none }
def streamChainRow : OpenClaim := { program := "ytkpjehplchdmgaadoor", sum := "efa38e4e50b306de991cc2d88fe3d3d5023dfabd17922e9187642712cec55785", func := "bolter/bolterlaw09.StreamChain", spec := "streamChain", inPlace := ["internal/reflectlite.ValueOf", "(internal/reflectlite.Value).Type", "(internal/reflectlite.Value).IsNil", "internal/reflectlite.TypeOf", "(internal/reflectlite.Value).Elem", "(internal/reflectlite.Value).Set"], unfollowed := true, recurses := true, named := ["errors.errorType"], apart := false, laid := [("errors.errorType", laid_errors_errorType)] }
def StreamChainSaid : Prop := streamChainRow.holds Tryd.pinned (OpenSpec.ofChange streamChainSpec)

/-- ITS FALSE NEIGHBOUR: 'it returns false'. Refute it at one input. -/
def streamChainWrong : ChangeSpec := { name := "streamChain", fn := fun _ => fun
  | [d1, d2, d3] => { results := [.lit (.bool false)], args := [d1, d2, d3] }
  | _ => none }
def StreamChainWrongFalsely : Prop := streamChainRow.holds Tryd.pinned (OpenSpec.ofChange streamChainWrong)

/-- 'bolterlaw09.StreamOther': WHATEVER THE INPUT: true; the input reads as it did. -/
def streamOtherSpec : ChangeSpec := { name := "streamOther", fn := fun _ => fun
  | [d1, d2, d3] => { results := [.lit (.bool true)], args := [d1, d2, d3] }
  | _ => none }
def streamOtherRow : OpenClaim := { program := "ytkpjehplchdmgaadoor", sum := "efa38e4e50b306de991cc2d88fe3d3d5023dfabd17922e9187642712cec55785", func := "bolter/bolterlaw09.StreamOther", spec := "streamOther", inPlace := ["internal/reflectlite.ValueOf", "(internal/reflectlite.Value).Type", "(internal/reflectlite.Value).IsNil", "internal/reflectlite.TypeOf", "(internal/reflectlite.Value).Elem", "(internal/reflectlite.Value).Set"], unfollowed := true, recurses := true, named := ["errors.errorType"], apart := false, laid := [("errors.errorType", laid_errors_errorType)] }
def StreamOtherSaid : Prop := streamOtherRow.holds Tryd.pinned (OpenSpec.ofChange streamOtherSpec)

/-- ITS FALSE NEIGHBOUR: 'it returns false'. Refute it at one input. -/
def streamOtherWrong : ChangeSpec := { name := "streamOther", fn := fun _ => fun
  | [d1, d2, d3] => { results := [.lit (.bool false)], args := [d1, d2, d3] }
  | _ => none }
def StreamOtherWrongFalsely : Prop := streamOtherRow.holds Tryd.pinned (OpenSpec.ofChange streamOtherWrong)

/- THE SECOND FORM. 'bulk': how many values and letters a reading holds, each counted each time it is reached (what is shared counts as often as it is met; a slice's spare places count too). A statement '..UptoSaid' is the law's where the arguments, and the package variables that the reading takes, are together of bulk at most 1048576: NARROWER than '..Said'. Prove '..Said' where nothing that the law and all that it calls make is longer than what came in: it says more and counts as full. Else prove '..UptoSaid'. A law counts once. -/
mutual
def uptoBulk {H : Type} : DataW H → Nat
  | .lit (.string bytes) => bytes.length + 1
  | .lit _ => 1
  | .nil => 1
  | .ptr d => uptoBulk d + 1
  | .slice elems spare => uptoBulkAll elems + uptoBulkAll spare + 1
  | .agg parts => uptoBulkAll parts + 1
  | .iface _ d => uptoBulk d + 1
  | .map entries => uptoBulkEntries entries + 1
  | .held _ => 1
def uptoBulkAll {H : Type} : List (DataW H) → Nat
  | [] => 0
  | d :: r => uptoBulk d + uptoBulkAll r
def uptoBulkEntries {H : Type} : List (Lit × DataW H) → Nat
  | [] => 0
  | x :: r => uptoBulkEntry x + uptoBulkEntries r
def uptoBulkEntry {H : Type} : Lit × DataW H → Nat
  | (.string bytes, d) => bytes.length + uptoBulk d + 1
  | (_, d) => uptoBulk d + 1
 end
def uptoSmall : (H : Type) → List (DataW H) → Bool := fun _ ds => decide (uptoBulkAll ds ≤ 1048576)
def OpenSpec.upto (s : _root_.Go.ChangeSpec) : _root_.Go.OpenSpec := { _root_.Go.OpenSpec.ofChange s with cond := some uptoSmall }

/-- 'bolterlaw09.StreamFull', WHERE WHAT IT READS IS OF BULK AT MOST 1048576: true; the input reads as it did. -/
def streamFullUptoRow : OpenClaim := { program := "ytkpjehplchdmgaadoor", sum := "efa38e4e50b306de991cc2d88fe3d3d5023dfabd17922e9187642712cec55785", func := "bolter/bolterlaw09.StreamFull", spec := "streamFull", inPlace := ["internal/reflectlite.ValueOf", "(internal/reflectlite.Value).Type", "(internal/reflectlite.Value).IsNil", "internal/reflectlite.TypeOf", "(internal/reflectlite.Value).Elem", "(internal/reflectlite.Value).Set"], unfollowed := true, recurses := true, named := ["errors.errorType"], apart := false, laid := [("errors.errorType", laid_errors_errorType)], narrowed := true }
def StreamFullUptoSaid : Prop := streamFullUptoRow.holds Tryd.pinned (OpenSpec.upto streamFullSpec)

/-- 'bolterlaw09.StreamPart', WHERE WHAT IT READS IS OF BULK AT MOST 1048576: true; the input reads as it did. -/
def streamPartUptoRow : OpenClaim := { program := "ytkpjehplchdmgaadoor", sum := "efa38e4e50b306de991cc2d88fe3d3d5023dfabd17922e9187642712cec55785", func := "bolter/bolterlaw09.StreamPart", spec := "streamPart", inPlace := ["internal/reflectlite.ValueOf", "(internal/reflectlite.Value).Type", "(internal/reflectlite.Value).IsNil", "internal/reflectlite.TypeOf", "(internal/reflectlite.Value).Elem", "(internal/reflectlite.Value).Set"], unfollowed := true, recurses := true, named := ["errors.errorType"], apart := false, laid := [("errors.errorType", laid_errors_errorType)], narrowed := true }
def StreamPartUptoSaid : Prop := streamPartUptoRow.holds Tryd.pinned (OpenSpec.upto streamPartSpec)

/-- 'bolterlaw09.StreamChain', WHERE WHAT IT READS IS OF BULK AT MOST 1048576: true; the input reads as it did. -/
def streamChainUptoRow : OpenClaim := { program := "ytkpjehplchdmgaadoor", sum := "efa38e4e50b306de991cc2d88fe3d3d5023dfabd17922e9187642712cec55785", func := "bolter/bolterlaw09.StreamChain", spec := "streamChain", inPlace := ["internal/reflectlite.ValueOf", "(internal/reflectlite.Value).Type", "(internal/reflectlite.Value).IsNil", "internal/reflectlite.TypeOf", "(internal/reflectlite.Value).Elem", "(internal/reflectlite.Value).Set"], unfollowed := true, recurses := true, named := ["errors.errorType"], apart := false, laid := [("errors.errorType", laid_errors_errorType)], narrowed := true }
def StreamChainUptoSaid : Prop := streamChainUptoRow.holds Tryd.pinned (OpenSpec.upto streamChainSpec)

/-- 'bolterlaw09.StreamOther', WHERE WHAT IT READS IS OF BULK AT MOST 1048576: true; the input reads as it did. -/
def streamOtherUptoRow : OpenClaim := { program := "ytkpjehplchdmgaadoor", sum := "efa38e4e50b306de991cc2d88fe3d3d5023dfabd17922e9187642712cec55785", func := "bolter/bolterlaw09.StreamOther", spec := "streamOther", inPlace := ["internal/reflectlite.ValueOf", "(internal/reflectlite.Value).Type", "(internal/reflectlite.Value).IsNil", "internal/reflectlite.TypeOf", "(internal/reflectlite.Value).Elem", "(internal/reflectlite.Value).Set"], unfollowed := true, recurses := true, named := ["errors.errorType"], apart := false, laid := [("errors.errorType", laid_errors_errorType)], narrowed := true }
def StreamOtherUptoSaid : Prop := streamOtherUptoRow.holds Tryd.pinned (OpenSpec.upto streamOtherSpec)

end Rows
end Go.Proofs.YtkpjehplchdmgaaDoor
