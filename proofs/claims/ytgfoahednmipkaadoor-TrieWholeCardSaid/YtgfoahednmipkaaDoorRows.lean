/-
  NARROWER THAN 'FOR EVERY INPUT', by the rows' own cells (each row's printed sentence says how): TrieScript: laid · TrieMay: laid · TrieOrder: laid · TrieGone: laid · TrieDeep: laid · TrieWhole: laid.
  DERIVED. THE GIVEN ROWS OF THIS SEAT. 6 by the template 'for every input the law returns true; each argument reads behind the call as it read before'; 0 by the template 'total and deterministic' (their statements: YtgfoahednmipkaaDoorTotals.lean).
  GIVEN WITH THE SEED: the statements are not yours to turn. If you find one false, say at which input.
  Laid BY PROGRAM, IN A SANDBOX (cutbox-rows.mjs): the forced cells as the released guide's own fill.sh prints them over the translation e568fa87cb1dd4a9… (all of the seat's roots in one cut). By AI agents, Wed Nov 11 2026. No macro, syntax, notation, axiom, sorry.
-/
import Derived.Test.YtgfoahednmipkaaDoorChecked
import GoSem.PinnedTables
import GoSem.Claim
import GoSem.ClaimJoined
import GoSem.ClaimMapViews
import Derived.JoinedTies
import Derived.KernelRfl
namespace Go.Proofs.YtgfoahednmipkaaDoor
/- THE CELL 'sum', in the pinned program and in every row, IS THE sha256 OF THE DUMP (.gsa) THAT YtgfoahednmipkaaDoorProg.lean LOADS. Nothing in Lean hashes anything: it is a label: what it is worth is what the hold of that sum in a sandbox is worth. -/
noncomputable def Tryd.pinned : Pinned := { name := "ytgfoahednmipkaadoor", sum := "e568fa87cb1dd4a9ab9168d4fca983089cd840eaac45e702a7a13a4e9e84fbc1", checked := Tryd.checked }
namespace Rows
def none {H : Type} : Left H := { results := [], args := [] }

/- WHAT THE LISTED PACKAGE-LEVEL VARIABLES READ AS WHEN THE CALL BEGINS. Each datum BY PROGRAM (the guide's laid-datum.mjs) off the statement by which the dump's own 'gosem.cut.vars' lays the variable. In a bare row this is a premise. The card (YtgfoahednmipkaaDoorCards.lean) ties it to the program's text. -/
def laid_unicode_utf8_acceptRanges {H : Type} : DataW H := .agg [.agg [.lit (.int .u8 128), .lit (.int .u8 191)], .agg [.lit (.int .u8 160), .lit (.int .u8 191)], .agg [.lit (.int .u8 128), .lit (.int .u8 159)], .agg [.lit (.int .u8 144), .lit (.int .u8 191)], .agg [.lit (.int .u8 128), .lit (.int .u8 143)], .agg [.lit (.int .u8 0), .lit (.int .u8 0)], .agg [.lit (.int .u8 0), .lit (.int .u8 0)], .agg [.lit (.int .u8 0), .lit (.int .u8 0)], .agg [.lit (.int .u8 0), .lit (.int .u8 0)], .agg [.lit (.int .u8 0), .lit (.int .u8 0)], .agg [.lit (.int .u8 0), .lit (.int .u8 0)], .agg [.lit (.int .u8 0), .lit (.int .u8 0)], .agg [.lit (.int .u8 0), .lit (.int .u8 0)], .agg [.lit (.int .u8 0), .lit (.int .u8 0)], .agg [.lit (.int .u8 0), .lit (.int .u8 0)], .agg [.lit (.int .u8 0), .lit (.int .u8 0)]]
/-- One of Go's own tables, pinned by name: the form's constant. -/
def laid_unicode_utf8_first : DataW Unit := Go.Pinned.utf8First

/-- 'bolterlaw16.TrieScript': WHATEVER THE INPUT: true; the input reads as it did. -/
def trieScriptSpec : ChangeSpec := { name := "trieScript", fn := fun _ => fun
  | [d1, d2] => { results := [.lit (.bool true)], args := [d1, d2] }
  | _ => none }
def trieScriptRow : OpenClaim := { program := "ytgfoahednmipkaadoor", sum := "e568fa87cb1dd4a9ab9168d4fca983089cd840eaac45e702a7a13a4e9e84fbc1", func := "bolter/bolterlaw16.TrieScript", spec := "trieScript", inPlace := ["internal/bytealg.IndexByteString", "internal/bytealg.IndexString"], recurses := true, named := ["unicode/utf8.first", "unicode/utf8.acceptRanges", "internal/bytealg.MaxLen"], apart := false, laid := [("unicode/utf8.acceptRanges", laid_unicode_utf8_acceptRanges), ("unicode/utf8.first", laid_unicode_utf8_first)] }
def TrieScriptSaid : Prop := trieScriptRow.holds Tryd.pinned (OpenSpec.ofChange trieScriptSpec)

/-- ITS FALSE NEIGHBOUR: 'it returns false'. Refute it at one input. -/
def trieScriptWrong : ChangeSpec := { name := "trieScript", fn := fun _ => fun
  | [d1, d2] => { results := [.lit (.bool false)], args := [d1, d2] }
  | _ => none }
def TrieScriptWrongFalsely : Prop := trieScriptRow.holds Tryd.pinned (OpenSpec.ofChange trieScriptWrong)

/-- 'bolterlaw16.TrieMay': WHATEVER THE INPUT: true; the input reads as it did. -/
def trieMaySpec : ChangeSpec := { name := "trieMay", fn := fun _ => fun
  | [d1, d2] => { results := [.lit (.bool true)], args := [d1, d2] }
  | _ => none }
def trieMayRow : OpenClaim := { program := "ytgfoahednmipkaadoor", sum := "e568fa87cb1dd4a9ab9168d4fca983089cd840eaac45e702a7a13a4e9e84fbc1", func := "bolter/bolterlaw16.TrieMay", spec := "trieMay", inPlace := ["internal/bytealg.IndexByteString", "internal/bytealg.IndexString"], recurses := true, named := ["unicode/utf8.first", "unicode/utf8.acceptRanges", "internal/bytealg.MaxLen"], apart := false, laid := [("unicode/utf8.acceptRanges", laid_unicode_utf8_acceptRanges), ("unicode/utf8.first", laid_unicode_utf8_first)] }
def TrieMaySaid : Prop := trieMayRow.holds Tryd.pinned (OpenSpec.ofChange trieMaySpec)

/-- ITS FALSE NEIGHBOUR: 'it returns false'. Refute it at one input. -/
def trieMayWrong : ChangeSpec := { name := "trieMay", fn := fun _ => fun
  | [d1, d2] => { results := [.lit (.bool false)], args := [d1, d2] }
  | _ => none }
def TrieMayWrongFalsely : Prop := trieMayRow.holds Tryd.pinned (OpenSpec.ofChange trieMayWrong)

/-- 'bolterlaw16.TrieOrder': WHATEVER THE INPUT: true; the input reads as it did. -/
def trieOrderSpec : ChangeSpec := { name := "trieOrder", fn := fun _ => fun
  | [d] => { results := [.lit (.bool true)], args := [d] }
  | _ => none }
def trieOrderRow : OpenClaim := { program := "ytgfoahednmipkaadoor", sum := "e568fa87cb1dd4a9ab9168d4fca983089cd840eaac45e702a7a13a4e9e84fbc1", func := "bolter/bolterlaw16.TrieOrder", spec := "trieOrder", inPlace := ["internal/bytealg.IndexByteString", "internal/bytealg.IndexString"], recurses := true, named := ["unicode/utf8.first", "unicode/utf8.acceptRanges", "internal/bytealg.MaxLen"], apart := false, laid := [("unicode/utf8.acceptRanges", laid_unicode_utf8_acceptRanges), ("unicode/utf8.first", laid_unicode_utf8_first)] }
def TrieOrderSaid : Prop := trieOrderRow.holds Tryd.pinned (OpenSpec.ofChange trieOrderSpec)

/-- ITS FALSE NEIGHBOUR: 'it returns false'. Refute it at one input. -/
def trieOrderWrong : ChangeSpec := { name := "trieOrder", fn := fun _ => fun
  | [d] => { results := [.lit (.bool false)], args := [d] }
  | _ => none }
def TrieOrderWrongFalsely : Prop := trieOrderRow.holds Tryd.pinned (OpenSpec.ofChange trieOrderWrong)

/-- 'bolterlaw16.TrieGone': WHATEVER THE INPUT: true; the input reads as it did. -/
def trieGoneSpec : ChangeSpec := { name := "trieGone", fn := fun _ => fun
  | [d] => { results := [.lit (.bool true)], args := [d] }
  | _ => none }
def trieGoneRow : OpenClaim := { program := "ytgfoahednmipkaadoor", sum := "e568fa87cb1dd4a9ab9168d4fca983089cd840eaac45e702a7a13a4e9e84fbc1", func := "bolter/bolterlaw16.TrieGone", spec := "trieGone", inPlace := ["internal/bytealg.IndexByteString", "internal/bytealg.IndexString"], recurses := true, named := ["unicode/utf8.first", "unicode/utf8.acceptRanges", "internal/bytealg.MaxLen"], apart := false, laid := [("unicode/utf8.acceptRanges", laid_unicode_utf8_acceptRanges), ("unicode/utf8.first", laid_unicode_utf8_first)] }
def TrieGoneSaid : Prop := trieGoneRow.holds Tryd.pinned (OpenSpec.ofChange trieGoneSpec)

/-- ITS FALSE NEIGHBOUR: 'it returns false'. Refute it at one input. -/
def trieGoneWrong : ChangeSpec := { name := "trieGone", fn := fun _ => fun
  | [d] => { results := [.lit (.bool false)], args := [d] }
  | _ => none }
def TrieGoneWrongFalsely : Prop := trieGoneRow.holds Tryd.pinned (OpenSpec.ofChange trieGoneWrong)

/-- 'bolterlaw16.TrieDeep': WHATEVER THE INPUT: true; the input reads as it did. -/
def trieDeepSpec : ChangeSpec := { name := "trieDeep", fn := fun _ => fun
  | [d1, d2] => { results := [.lit (.bool true)], args := [d1, d2] }
  | _ => none }
def trieDeepRow : OpenClaim := { program := "ytgfoahednmipkaadoor", sum := "e568fa87cb1dd4a9ab9168d4fca983089cd840eaac45e702a7a13a4e9e84fbc1", func := "bolter/bolterlaw16.TrieDeep", spec := "trieDeep", inPlace := ["internal/bytealg.IndexByteString", "internal/bytealg.IndexString"], recurses := true, named := ["unicode/utf8.first", "unicode/utf8.acceptRanges", "internal/bytealg.MaxLen"], apart := false, laid := [("unicode/utf8.acceptRanges", laid_unicode_utf8_acceptRanges), ("unicode/utf8.first", laid_unicode_utf8_first)] }
def TrieDeepSaid : Prop := trieDeepRow.holds Tryd.pinned (OpenSpec.ofChange trieDeepSpec)

/-- ITS FALSE NEIGHBOUR: 'it returns false'. Refute it at one input. -/
def trieDeepWrong : ChangeSpec := { name := "trieDeep", fn := fun _ => fun
  | [d1, d2] => { results := [.lit (.bool false)], args := [d1, d2] }
  | _ => none }
def TrieDeepWrongFalsely : Prop := trieDeepRow.holds Tryd.pinned (OpenSpec.ofChange trieDeepWrong)

/-- 'bolterlaw16.TrieWhole': WHATEVER THE INPUT: true; the input reads as it did. -/
def trieWholeSpec : ChangeSpec := { name := "trieWhole", fn := fun _ => fun
  | [d] => { results := [.lit (.bool true)], args := [d] }
  | _ => none }
def trieWholeRow : OpenClaim := { program := "ytgfoahednmipkaadoor", sum := "e568fa87cb1dd4a9ab9168d4fca983089cd840eaac45e702a7a13a4e9e84fbc1", func := "bolter/bolterlaw16.TrieWhole", spec := "trieWhole", inPlace := ["internal/bytealg.IndexByteString", "internal/bytealg.IndexString"], recurses := true, named := ["unicode/utf8.first", "unicode/utf8.acceptRanges", "internal/bytealg.MaxLen"], apart := false, laid := [("unicode/utf8.acceptRanges", laid_unicode_utf8_acceptRanges), ("unicode/utf8.first", laid_unicode_utf8_first)] }
def TrieWholeSaid : Prop := trieWholeRow.holds Tryd.pinned (OpenSpec.ofChange trieWholeSpec)

/-- ITS FALSE NEIGHBOUR: 'it returns false'. Refute it at one input. -/
def trieWholeWrong : ChangeSpec := { name := "trieWhole", fn := fun _ => fun
  | [d] => { results := [.lit (.bool false)], args := [d] }
  | _ => none }
def TrieWholeWrongFalsely : Prop := trieWholeRow.holds Tryd.pinned (OpenSpec.ofChange trieWholeWrong)

/- THE SECOND FORM. 'bulk': how many values and letters a reading holds, each counted each time it is reached (what is shared counts as often as it is met; a slice's spare places count too). A statement '..UptoSaid' is the law's where the arguments, and the package variables that the reading takes, are together of bulk at most 1048576: NARROWER than '..Said'. Prove '..Said' where nothing that the law and all that it calls make is longer than what came in: it says more and counts as full. Else prove '..UptoSaid'. A law counts once. -/
mutual
def uptoBulk {H : Type} : DataW H → Nat
  | .lit (.string bytes) => bytes.length + 1
  | .lit _ => 1
  | .nil => 1
  | .ptr d => uptoBulk d + 1
  | .slice elems spare => uptoBulkAll elems + uptoBulkAll spare + 1
  | .agg parts => uptoBulkAll parts + 1
  | .iface _ d => uptoBulk d + 1
  | .map entries => uptoBulkEntries entries + 1
  | .held _ => 1
def uptoBulkAll {H : Type} : List (DataW H) → Nat
  | [] => 0
  | d :: r => uptoBulk d + uptoBulkAll r
def uptoBulkEntries {H : Type} : List (Lit × DataW H) → Nat
  | [] => 0
  | x :: r => uptoBulkEntry x + uptoBulkEntries r
def uptoBulkEntry {H : Type} : Lit × DataW H → Nat
  | (.string bytes, d) => bytes.length + uptoBulk d + 1
  | (_, d) => uptoBulk d + 1
 end
def uptoSmall : (H : Type) → List (DataW H) → Bool := fun _ ds => decide (uptoBulkAll ds ≤ 1048576)
def OpenSpec.upto (s : _root_.Go.ChangeSpec) : _root_.Go.OpenSpec := { _root_.Go.OpenSpec.ofChange s with cond := some uptoSmall }

/-- 'bolterlaw16.TrieScript', WHERE WHAT IT READS IS OF BULK AT MOST 1048576: true; the input reads as it did. -/
def trieScriptUptoRow : OpenClaim := { program := "ytgfoahednmipkaadoor", sum := "e568fa87cb1dd4a9ab9168d4fca983089cd840eaac45e702a7a13a4e9e84fbc1", func := "bolter/bolterlaw16.TrieScript", spec := "trieScript", inPlace := ["internal/bytealg.IndexByteString", "internal/bytealg.IndexString"], recurses := true, named := ["unicode/utf8.first", "unicode/utf8.acceptRanges", "internal/bytealg.MaxLen"], apart := false, laid := [("unicode/utf8.acceptRanges", laid_unicode_utf8_acceptRanges), ("unicode/utf8.first", laid_unicode_utf8_first)], narrowed := true }
def TrieScriptUptoSaid : Prop := trieScriptUptoRow.holds Tryd.pinned (OpenSpec.upto trieScriptSpec)

/-- 'bolterlaw16.TrieMay', WHERE WHAT IT READS IS OF BULK AT MOST 1048576: true; the input reads as it did. -/
def trieMayUptoRow : OpenClaim := { program := "ytgfoahednmipkaadoor", sum := "e568fa87cb1dd4a9ab9168d4fca983089cd840eaac45e702a7a13a4e9e84fbc1", func := "bolter/bolterlaw16.TrieMay", spec := "trieMay", inPlace := ["internal/bytealg.IndexByteString", "internal/bytealg.IndexString"], recurses := true, named := ["unicode/utf8.first", "unicode/utf8.acceptRanges", "internal/bytealg.MaxLen"], apart := false, laid := [("unicode/utf8.acceptRanges", laid_unicode_utf8_acceptRanges), ("unicode/utf8.first", laid_unicode_utf8_first)], narrowed := true }
def TrieMayUptoSaid : Prop := trieMayUptoRow.holds Tryd.pinned (OpenSpec.upto trieMaySpec)

/-- 'bolterlaw16.TrieOrder', WHERE WHAT IT READS IS OF BULK AT MOST 1048576: true; the input reads as it did. -/
def trieOrderUptoRow : OpenClaim := { program := "ytgfoahednmipkaadoor", sum := "e568fa87cb1dd4a9ab9168d4fca983089cd840eaac45e702a7a13a4e9e84fbc1", func := "bolter/bolterlaw16.TrieOrder", spec := "trieOrder", inPlace := ["internal/bytealg.IndexByteString", "internal/bytealg.IndexString"], recurses := true, named := ["unicode/utf8.first", "unicode/utf8.acceptRanges", "internal/bytealg.MaxLen"], apart := false, laid := [("unicode/utf8.acceptRanges", laid_unicode_utf8_acceptRanges), ("unicode/utf8.first", laid_unicode_utf8_first)], narrowed := true }
def TrieOrderUptoSaid : Prop := trieOrderUptoRow.holds Tryd.pinned (OpenSpec.upto trieOrderSpec)

/-- 'bolterlaw16.TrieGone', WHERE WHAT IT READS IS OF BULK AT MOST 1048576: true; the input reads as it did. -/
def trieGoneUptoRow : OpenClaim := { program := "ytgfoahednmipkaadoor", sum := "e568fa87cb1dd4a9ab9168d4fca983089cd840eaac45e702a7a13a4e9e84fbc1", func := "bolter/bolterlaw16.TrieGone", spec := "trieGone", inPlace := ["internal/bytealg.IndexByteString", "internal/bytealg.IndexString"], recurses := true, named := ["unicode/utf8.first", "unicode/utf8.acceptRanges", "internal/bytealg.MaxLen"], apart := false, laid := [("unicode/utf8.acceptRanges", laid_unicode_utf8_acceptRanges), ("unicode/utf8.first", laid_unicode_utf8_first)], narrowed := true }
def TrieGoneUptoSaid : Prop := trieGoneUptoRow.holds Tryd.pinned (OpenSpec.upto trieGoneSpec)

/-- 'bolterlaw16.TrieDeep', WHERE WHAT IT READS IS OF BULK AT MOST 1048576: true; the input reads as it did. -/
def trieDeepUptoRow : OpenClaim := { program := "ytgfoahednmipkaadoor", sum := "e568fa87cb1dd4a9ab9168d4fca983089cd840eaac45e702a7a13a4e9e84fbc1", func := "bolter/bolterlaw16.TrieDeep", spec := "trieDeep", inPlace := ["internal/bytealg.IndexByteString", "internal/bytealg.IndexString"], recurses := true, named := ["unicode/utf8.first", "unicode/utf8.acceptRanges", "internal/bytealg.MaxLen"], apart := false, laid := [("unicode/utf8.acceptRanges", laid_unicode_utf8_acceptRanges), ("unicode/utf8.first", laid_unicode_utf8_first)], narrowed := true }
def TrieDeepUptoSaid : Prop := trieDeepUptoRow.holds Tryd.pinned (OpenSpec.upto trieDeepSpec)

/-- 'bolterlaw16.TrieWhole', WHERE WHAT IT READS IS OF BULK AT MOST 1048576: true; the input reads as it did. -/
def trieWholeUptoRow : OpenClaim := { program := "ytgfoahednmipkaadoor", sum := "e568fa87cb1dd4a9ab9168d4fca983089cd840eaac45e702a7a13a4e9e84fbc1", func := "bolter/bolterlaw16.TrieWhole", spec := "trieWhole", inPlace := ["internal/bytealg.IndexByteString", "internal/bytealg.IndexString"], recurses := true, named := ["unicode/utf8.first", "unicode/utf8.acceptRanges", "internal/bytealg.MaxLen"], apart := false, laid := [("unicode/utf8.acceptRanges", laid_unicode_utf8_acceptRanges), ("unicode/utf8.first", laid_unicode_utf8_first)], narrowed := true }
def TrieWholeUptoSaid : Prop := trieWholeUptoRow.holds Tryd.pinned (OpenSpec.upto trieWholeSpec)

end Rows
end Go.Proofs.YtgfoahednmipkaaDoor
