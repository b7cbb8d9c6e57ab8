/-
  No cell of these rows narrows 'for every input' (looked for: loops, veiled, ifaces, maps, wideKeys, modest, calm, conditions, laid).
  DERIVED. THE GIVEN ROWS OF THIS SEAT. 10 by the template 'for every input the law returns true; each argument reads behind the call as it read before'; 0 by the template 'total and deterministic' (their statements: YthhlgogokcblgaaTotals.lean).
  GIVEN WITH THE SEED: the statements are not yours to turn. If you find one false, say at which input.
  Laid BY PROGRAM, IN A SANDBOX (cutbox-rows.mjs): the forced cells as the released guide's own fill.sh prints them over the translation 9c85084cf128f1a3… (all of the seat's roots in one cut). By AI agents, Wed Nov 11 2026. No macro, syntax, notation, axiom, sorry.
-/
import Derived.Test.YthhlgogokcblgaaChecked
import GoSem.Claim
import GoSem.ClaimJoined
import GoSem.ClaimMapViews
import Derived.JoinedTies
import Derived.KernelRfl
namespace Go.Proofs.Ythhlgogokcblgaa
/- THE CELL 'sum', in the pinned program and in every row, IS THE sha256 OF THE DUMP (.gsa) THAT YthhlgogokcblgaaProg.lean LOADS. Nothing in Lean hashes anything: it is a label: what it is worth is what the hold of that sum in a sandbox is worth. -/
noncomputable def Try.pinned : Pinned := { name := "ythhlgogokcblgaa", sum := "9c85084cf128f1a3386c50f687cae9ec74b48955d5e45bc720e41598bf3d7fea", checked := Try.checked }
namespace Rows
def none {H : Type} : Left H := { results := [], args := [] }

/-- 'bolterlaw01.NumPut': WHATEVER THE INPUT: true; the input reads as it did. -/
def numPutSpec : ChangeSpec := { name := "numPut", fn := fun _ => fun
  | [d1, d2, d3] => { results := [.lit (.bool true)], args := [d1, d2, d3] }
  | _ => none }
def numPutRow : OpenClaim := { program := "ythhlgogokcblgaa", sum := "9c85084cf128f1a3386c50f687cae9ec74b48955d5e45bc720e41598bf3d7fea", func := "bolter/bolterlaw01.NumPut", spec := "numPut", apart := false }
def NumPutSaid : Prop := numPutRow.holds Try.pinned (OpenSpec.ofChange numPutSpec)

/-- ITS FALSE NEIGHBOUR: 'it returns false'. Refute it at one input. -/
def numPutWrong : ChangeSpec := { name := "numPut", fn := fun _ => fun
  | [d1, d2, d3] => { results := [.lit (.bool false)], args := [d1, d2, d3] }
  | _ => none }
def NumPutWrongFalsely : Prop := numPutRow.holds Try.pinned (OpenSpec.ofChange numPutWrong)

/-- 'bolterlaw01.NumGet': WHATEVER THE INPUT: true; the input reads as it did. -/
def numGetSpec : ChangeSpec := { name := "numGet", fn := fun _ => fun
  | [d1, d2] => { results := [.lit (.bool true)], args := [d1, d2] }
  | _ => none }
def numGetRow : OpenClaim := { program := "ythhlgogokcblgaa", sum := "9c85084cf128f1a3386c50f687cae9ec74b48955d5e45bc720e41598bf3d7fea", func := "bolter/bolterlaw01.NumGet", spec := "numGet", unfollowed := true, recurses := true, apart := false }
def NumGetSaid : Prop := numGetRow.holds Try.pinned (OpenSpec.ofChange numGetSpec)

/-- ITS FALSE NEIGHBOUR: 'it returns false'. Refute it at one input. -/
def numGetWrong : ChangeSpec := { name := "numGet", fn := fun _ => fun
  | [d1, d2] => { results := [.lit (.bool false)], args := [d1, d2] }
  | _ => none }
def NumGetWrongFalsely : Prop := numGetRow.holds Try.pinned (OpenSpec.ofChange numGetWrong)

/-- 'bolterlaw01.NumBits': WHATEVER THE INPUT: true; the input reads as it did. -/
def numBitsSpec : ChangeSpec := { name := "numBits", fn := fun _ => fun
  | [d1, d2, d3] => { results := [.lit (.bool true)], args := [d1, d2, d3] }
  | _ => none }
def numBitsRow : OpenClaim := { program := "ythhlgogokcblgaa", sum := "9c85084cf128f1a3386c50f687cae9ec74b48955d5e45bc720e41598bf3d7fea", func := "bolter/bolterlaw01.NumBits", spec := "numBits", apart := false }
def NumBitsSaid : Prop := numBitsRow.holds Try.pinned (OpenSpec.ofChange numBitsSpec)

/-- ITS FALSE NEIGHBOUR: 'it returns false'. Refute it at one input. -/
def numBitsWrong : ChangeSpec := { name := "numBits", fn := fun _ => fun
  | [d1, d2, d3] => { results := [.lit (.bool false)], args := [d1, d2, d3] }
  | _ => none }
def NumBitsWrongFalsely : Prop := numBitsRow.holds Try.pinned (OpenSpec.ofChange numBitsWrong)

/-- 'bolterlaw01.NumBack': WHATEVER THE INPUT: true; the input reads as it did. -/
def numBackSpec : ChangeSpec := { name := "numBack", fn := fun _ => fun
  | [d1, d2, d3] => { results := [.lit (.bool true)], args := [d1, d2, d3] }
  | _ => none }
def numBackRow : OpenClaim := { program := "ythhlgogokcblgaa", sum := "9c85084cf128f1a3386c50f687cae9ec74b48955d5e45bc720e41598bf3d7fea", func := "bolter/bolterlaw01.NumBack", spec := "numBack", apart := false }
def NumBackSaid : Prop := numBackRow.holds Try.pinned (OpenSpec.ofChange numBackSpec)

/-- ITS FALSE NEIGHBOUR: 'it returns false'. Refute it at one input. -/
def numBackWrong : ChangeSpec := { name := "numBack", fn := fun _ => fun
  | [d1, d2, d3] => { results := [.lit (.bool false)], args := [d1, d2, d3] }
  | _ => none }
def NumBackWrongFalsely : Prop := numBackRow.holds Try.pinned (OpenSpec.ofChange numBackWrong)

/-- 'bolterlaw01.NumOrder': WHATEVER THE INPUT: true; the input reads as it did. -/
def numOrderSpec : ChangeSpec := { name := "numOrder", fn := fun _ => fun
  | [d1, d2, d3, d4] => { results := [.lit (.bool true)], args := [d1, d2, d3, d4] }
  | _ => none }
def numOrderRow : OpenClaim := { program := "ythhlgogokcblgaa", sum := "9c85084cf128f1a3386c50f687cae9ec74b48955d5e45bc720e41598bf3d7fea", func := "bolter/bolterlaw01.NumOrder", spec := "numOrder", apart := false }
def NumOrderSaid : Prop := numOrderRow.holds Try.pinned (OpenSpec.ofChange numOrderSpec)

/-- ITS FALSE NEIGHBOUR: 'it returns false'. Refute it at one input. -/
def numOrderWrong : ChangeSpec := { name := "numOrder", fn := fun _ => fun
  | [d1, d2, d3, d4] => { results := [.lit (.bool false)], args := [d1, d2, d3, d4] }
  | _ => none }
def NumOrderWrongFalsely : Prop := numOrderRow.holds Try.pinned (OpenSpec.ofChange numOrderWrong)

/-- 'bolterlaw02.NameMake': WHATEVER THE INPUT: true; the input reads as it did. -/
def nameMakeSpec : ChangeSpec := { name := "nameMake", fn := fun _ => fun
  | [d] => { results := [.lit (.bool true)], args := [d] }
  | _ => none }
def nameMakeRow : OpenClaim := { program := "ythhlgogokcblgaa", sum := "9c85084cf128f1a3386c50f687cae9ec74b48955d5e45bc720e41598bf3d7fea", func := "bolter/bolterlaw02.NameMake", spec := "nameMake", inPlace := ["internal/abi.NoEscape"], apart := false }
def NameMakeSaid : Prop := nameMakeRow.holds Try.pinned (OpenSpec.ofChange nameMakeSpec)

/-- ITS FALSE NEIGHBOUR: 'it returns false'. Refute it at one input. -/
def nameMakeWrong : ChangeSpec := { name := "nameMake", fn := fun _ => fun
  | [d] => { results := [.lit (.bool false)], args := [d] }
  | _ => none }
def NameMakeWrongFalsely : Prop := nameMakeRow.holds Try.pinned (OpenSpec.ofChange nameMakeWrong)

/-- 'bolterlaw02.NameLabels': WHATEVER THE INPUT: true; the input reads as it did. -/
def nameLabelsSpec : ChangeSpec := { name := "nameLabels", fn := fun _ => fun
  | [d] => { results := [.lit (.bool true)], args := [d] }
  | _ => none }
def nameLabelsRow : OpenClaim := { program := "ythhlgogokcblgaa", sum := "9c85084cf128f1a3386c50f687cae9ec74b48955d5e45bc720e41598bf3d7fea", func := "bolter/bolterlaw02.NameLabels", spec := "nameLabels", inPlace := ["internal/abi.NoEscape"], apart := false }
def NameLabelsSaid : Prop := nameLabelsRow.holds Try.pinned (OpenSpec.ofChange nameLabelsSpec)

/-- ITS FALSE NEIGHBOUR: 'it returns false'. Refute it at one input. -/
def nameLabelsWrong : ChangeSpec := { name := "nameLabels", fn := fun _ => fun
  | [d] => { results := [.lit (.bool false)], args := [d] }
  | _ => none }
def NameLabelsWrongFalsely : Prop := nameLabelsRow.holds Try.pinned (OpenSpec.ofChange nameLabelsWrong)

/-- 'bolterlaw02.NameFold': WHATEVER THE INPUT: true; the input reads as it did. -/
def nameFoldSpec : ChangeSpec := { name := "nameFold", fn := fun _ => fun
  | [d] => { results := [.lit (.bool true)], args := [d] }
  | _ => none }
def nameFoldRow : OpenClaim := { program := "ythhlgogokcblgaa", sum := "9c85084cf128f1a3386c50f687cae9ec74b48955d5e45bc720e41598bf3d7fea", func := "bolter/bolterlaw02.NameFold", spec := "nameFold", inPlace := ["internal/abi.NoEscape"], apart := false }
def NameFoldSaid : Prop := nameFoldRow.holds Try.pinned (OpenSpec.ofChange nameFoldSpec)

/-- ITS FALSE NEIGHBOUR: 'it returns false'. Refute it at one input. -/
def nameFoldWrong : ChangeSpec := { name := "nameFold", fn := fun _ => fun
  | [d] => { results := [.lit (.bool false)], args := [d] }
  | _ => none }
def NameFoldWrongFalsely : Prop := nameFoldRow.holds Try.pinned (OpenSpec.ofChange nameFoldWrong)

/-- 'bolterlaw02.NameBelow': WHATEVER THE INPUT: true; the input reads as it did. -/
def nameBelowSpec : ChangeSpec := { name := "nameBelow", fn := fun _ => fun
  | [d1, d2] => { results := [.lit (.bool true)], args := [d1, d2] }
  | _ => none }
def nameBelowRow : OpenClaim := { program := "ythhlgogokcblgaa", sum := "9c85084cf128f1a3386c50f687cae9ec74b48955d5e45bc720e41598bf3d7fea", func := "bolter/bolterlaw02.NameBelow", spec := "nameBelow", inPlace := ["internal/abi.NoEscape"], apart := false }
def NameBelowSaid : Prop := nameBelowRow.holds Try.pinned (OpenSpec.ofChange nameBelowSpec)

/-- ITS FALSE NEIGHBOUR: 'it returns false'. Refute it at one input. -/
def nameBelowWrong : ChangeSpec := { name := "nameBelow", fn := fun _ => fun
  | [d1, d2] => { results := [.lit (.bool false)], args := [d1, d2] }
  | _ => none }
def NameBelowWrongFalsely : Prop := nameBelowRow.holds Try.pinned (OpenSpec.ofChange nameBelowWrong)

/-- 'bolterlaw02.NameParent': WHATEVER THE INPUT: true; the input reads as it did. -/
def nameParentSpec : ChangeSpec := { name := "nameParent", fn := fun _ => fun
  | [d] => { results := [.lit (.bool true)], args := [d] }
  | _ => none }
def nameParentRow : OpenClaim := { program := "ythhlgogokcblgaa", sum := "9c85084cf128f1a3386c50f687cae9ec74b48955d5e45bc720e41598bf3d7fea", func := "bolter/bolterlaw02.NameParent", spec := "nameParent", inPlace := ["internal/abi.NoEscape"], apart := false }
def NameParentSaid : Prop := nameParentRow.holds Try.pinned (OpenSpec.ofChange nameParentSpec)

/-- ITS FALSE NEIGHBOUR: 'it returns false'. Refute it at one input. -/
def nameParentWrong : ChangeSpec := { name := "nameParent", fn := fun _ => fun
  | [d] => { results := [.lit (.bool false)], args := [d] }
  | _ => none }
def NameParentWrongFalsely : Prop := nameParentRow.holds Try.pinned (OpenSpec.ofChange nameParentWrong)

/- THE SECOND FORM. 'bulk': how many values and letters a reading holds, each counted each time it is reached (what is shared counts as often as it is met; a slice's spare places count too). A statement '..UptoSaid' is the law's where the arguments, and the package variables that the reading takes, are together of bulk at most 1048576: NARROWER than '..Said'. Prove '..Said' where nothing that the law and all that it calls make is longer than what came in: it says more and counts as full. Else prove '..UptoSaid'. A law counts once. -/
mutual
def uptoBulk {H : Type} : DataW H → Nat
  | .lit (.string bytes) => bytes.length + 1
  | .lit _ => 1
  | .nil => 1
  | .ptr d => uptoBulk d + 1
  | .slice elems spare => uptoBulkAll elems + uptoBulkAll spare + 1
  | .agg parts => uptoBulkAll parts + 1
  | .iface _ d => uptoBulk d + 1
  | .map entries => uptoBulkEntries entries + 1
  | .held _ => 1
def uptoBulkAll {H : Type} : List (DataW H) → Nat
  | [] => 0
  | d :: r => uptoBulk d + uptoBulkAll r
def uptoBulkEntries {H : Type} : List (Lit × DataW H) → Nat
  | [] => 0
  | x :: r => uptoBulkEntry x + uptoBulkEntries r
def uptoBulkEntry {H : Type} : Lit × DataW H → Nat
  | (.string bytes, d) => bytes.length + uptoBulk d + 1
  | (_, d) => uptoBulk d + 1
 end
def uptoSmall : (H : Type) → List (DataW H) → Bool := fun _ ds => decide (uptoBulkAll ds ≤ 1048576)
def OpenSpec.upto (s : _root_.Go.ChangeSpec) : _root_.Go.OpenSpec := { _root_.Go.OpenSpec.ofChange s with cond := some uptoSmall }

/-- 'bolterlaw01.NumPut', WHERE WHAT IT READS IS OF BULK AT MOST 1048576: true; the input reads as it did. -/
def numPutUptoRow : OpenClaim := { program := "ythhlgogokcblgaa", sum := "9c85084cf128f1a3386c50f687cae9ec74b48955d5e45bc720e41598bf3d7fea", func := "bolter/bolterlaw01.NumPut", spec := "numPut", apart := false, narrowed := true }
def NumPutUptoSaid : Prop := numPutUptoRow.holds Try.pinned (OpenSpec.upto numPutSpec)

/-- 'bolterlaw01.NumGet', WHERE WHAT IT READS IS OF BULK AT MOST 1048576: true; the input reads as it did. -/
def numGetUptoRow : OpenClaim := { program := "ythhlgogokcblgaa", sum := "9c85084cf128f1a3386c50f687cae9ec74b48955d5e45bc720e41598bf3d7fea", func := "bolter/bolterlaw01.NumGet", spec := "numGet", unfollowed := true, recurses := true, apart := false, narrowed := true }
def NumGetUptoSaid : Prop := numGetUptoRow.holds Try.pinned (OpenSpec.upto numGetSpec)

/-- 'bolterlaw01.NumBits', WHERE WHAT IT READS IS OF BULK AT MOST 1048576: true; the input reads as it did. -/
def numBitsUptoRow : OpenClaim := { program := "ythhlgogokcblgaa", sum := "9c85084cf128f1a3386c50f687cae9ec74b48955d5e45bc720e41598bf3d7fea", func := "bolter/bolterlaw01.NumBits", spec := "numBits", apart := false, narrowed := true }
def NumBitsUptoSaid : Prop := numBitsUptoRow.holds Try.pinned (OpenSpec.upto numBitsSpec)

/-- 'bolterlaw01.NumBack', WHERE WHAT IT READS IS OF BULK AT MOST 1048576: true; the input reads as it did. -/
def numBackUptoRow : OpenClaim := { program := "ythhlgogokcblgaa", sum := "9c85084cf128f1a3386c50f687cae9ec74b48955d5e45bc720e41598bf3d7fea", func := "bolter/bolterlaw01.NumBack", spec := "numBack", apart := false, narrowed := true }
def NumBackUptoSaid : Prop := numBackUptoRow.holds Try.pinned (OpenSpec.upto numBackSpec)

/-- 'bolterlaw01.NumOrder', WHERE WHAT IT READS IS OF BULK AT MOST 1048576: true; the input reads as it did. -/
def numOrderUptoRow : OpenClaim := { program := "ythhlgogokcblgaa", sum := "9c85084cf128f1a3386c50f687cae9ec74b48955d5e45bc720e41598bf3d7fea", func := "bolter/bolterlaw01.NumOrder", spec := "numOrder", apart := false, narrowed := true }
def NumOrderUptoSaid : Prop := numOrderUptoRow.holds Try.pinned (OpenSpec.upto numOrderSpec)

/-- 'bolterlaw02.NameMake', WHERE WHAT IT READS IS OF BULK AT MOST 1048576: true; the input reads as it did. -/
def nameMakeUptoRow : OpenClaim := { program := "ythhlgogokcblgaa", sum := "9c85084cf128f1a3386c50f687cae9ec74b48955d5e45bc720e41598bf3d7fea", func := "bolter/bolterlaw02.NameMake", spec := "nameMake", inPlace := ["internal/abi.NoEscape"], apart := false, narrowed := true }
def NameMakeUptoSaid : Prop := nameMakeUptoRow.holds Try.pinned (OpenSpec.upto nameMakeSpec)

/-- 'bolterlaw02.NameLabels', WHERE WHAT IT READS IS OF BULK AT MOST 1048576: true; the input reads as it did. -/
def nameLabelsUptoRow : OpenClaim := { program := "ythhlgogokcblgaa", sum := "9c85084cf128f1a3386c50f687cae9ec74b48955d5e45bc720e41598bf3d7fea", func := "bolter/bolterlaw02.NameLabels", spec := "nameLabels", inPlace := ["internal/abi.NoEscape"], apart := false, narrowed := true }
def NameLabelsUptoSaid : Prop := nameLabelsUptoRow.holds Try.pinned (OpenSpec.upto nameLabelsSpec)

/-- 'bolterlaw02.NameFold', WHERE WHAT IT READS IS OF BULK AT MOST 1048576: true; the input reads as it did. -/
def nameFoldUptoRow : OpenClaim := { program := "ythhlgogokcblgaa", sum := "9c85084cf128f1a3386c50f687cae9ec74b48955d5e45bc720e41598bf3d7fea", func := "bolter/bolterlaw02.NameFold", spec := "nameFold", inPlace := ["internal/abi.NoEscape"], apart := false, narrowed := true }
def NameFoldUptoSaid : Prop := nameFoldUptoRow.holds Try.pinned (OpenSpec.upto nameFoldSpec)

/-- 'bolterlaw02.NameBelow', WHERE WHAT IT READS IS OF BULK AT MOST 1048576: true; the input reads as it did. -/
def nameBelowUptoRow : OpenClaim := { program := "ythhlgogokcblgaa", sum := "9c85084cf128f1a3386c50f687cae9ec74b48955d5e45bc720e41598bf3d7fea", func := "bolter/bolterlaw02.NameBelow", spec := "nameBelow", inPlace := ["internal/abi.NoEscape"], apart := false, narrowed := true }
def NameBelowUptoSaid : Prop := nameBelowUptoRow.holds Try.pinned (OpenSpec.upto nameBelowSpec)

/-- 'bolterlaw02.NameParent', WHERE WHAT IT READS IS OF BULK AT MOST 1048576: true; the input reads as it did. -/
def nameParentUptoRow : OpenClaim := { program := "ythhlgogokcblgaa", sum := "9c85084cf128f1a3386c50f687cae9ec74b48955d5e45bc720e41598bf3d7fea", func := "bolter/bolterlaw02.NameParent", spec := "nameParent", inPlace := ["internal/abi.NoEscape"], apart := false, narrowed := true }
def NameParentUptoSaid : Prop := nameParentUptoRow.holds Try.pinned (OpenSpec.upto nameParentSpec)

end Rows
end Go.Proofs.Ythhlgogokcblgaa
