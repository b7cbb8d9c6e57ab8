/-
  DERIVED. GIVEN WITH THE SEED: THE CARDS: each row of YtfabnfcbldjadaaDoorRows.lean that lists a variable, with what it lists TIED to the program's text (the seventh form; the later family's looks); each row that meets fmt, with fmt's text TOLD by the authors' own Lean function (tested against real Go, not proved from fmt's source: count such statements apart). THE CARD IS WHAT COUNTS. Prove the row's statement (the work); the ties are given (YtfabnfcbldjadaaDoorTie.lean); close each card by the builder's one call (the guide's Derived/Test/ToyasCard.lean, 'card_holds'). Laid BY PROGRAM, IN A SANDBOX (cutbox-door.mjs). By AI agents, Wed Nov 11 2026. No macro, syntax, notation, axiom, sorry.
-/
import Derived.Test.YtfabnfcbldjadaaDoorRows
import GoSem.ClaimSeven
namespace Go.Proofs.YtfabnfcbldjadaaDoor
namespace Rows

/-- THE TIED CARD OF 'bolterlaw02.NameText'. -/
def nameTextCard : Claim7 := { stood := { row := nameTextRow, standIns := [], harness := (true, "1418d96659a969a60f6ede775b673e13d7840850b1367bfd9bf5d09ba7b28caf"), looks := false }, kinds := [], alts := [], laidByText := true, laidKinds := [.data, .pinned], laidTests := true, laidLooks := .later }
def NameTextCardSaid : Prop := Claim7.holds Tryd.pinned (.plain (OpenSpec.ofChange nameTextSpec)) nameTextCard

/-- THE TIED CARD OF 'bolterlaw02.NameParse'. -/
def nameParseCard : Claim7 := { stood := { row := nameParseRow, standIns := [], harness := (true, "1418d96659a969a60f6ede775b673e13d7840850b1367bfd9bf5d09ba7b28caf"), looks := false }, kinds := [], alts := [], laidByText := true, laidKinds := [.data, .pinned], laidTests := true, laidLooks := .later }
def NameParseCardSaid : Prop := Claim7.holds Tryd.pinned (.plain (OpenSpec.ofChange nameParseSpec)) nameParseCard

/-- THE SECOND FORM's CARD OF 'bolterlaw02.NameText'. -/
def nameTextUptoCard : Claim7 := { stood := { row := nameTextUptoRow, standIns := [], harness := (true, "1418d96659a969a60f6ede775b673e13d7840850b1367bfd9bf5d09ba7b28caf"), looks := false }, kinds := [], alts := [], laidByText := true, laidKinds := [.data, .pinned], laidTests := true, laidLooks := .later }
def NameTextUptoCardSaid : Prop := Claim7.holds Tryd.pinned (.plain (OpenSpec.upto nameTextSpec)) nameTextUptoCard

/-- THE SECOND FORM's CARD OF 'bolterlaw02.NameParse'. -/
def nameParseUptoCard : Claim7 := { stood := { row := nameParseUptoRow, standIns := [], harness := (true, "1418d96659a969a60f6ede775b673e13d7840850b1367bfd9bf5d09ba7b28caf"), looks := false }, kinds := [], alts := [], laidByText := true, laidKinds := [.data, .pinned], laidTests := true, laidLooks := .later }
def NameParseUptoCardSaid : Prop := Claim7.holds Tryd.pinned (.plain (OpenSpec.upto nameParseSpec)) nameParseUptoCard
end Rows
end Go.Proofs.YtfabnfcbldjadaaDoor
