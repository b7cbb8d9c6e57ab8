/-
  DERIVED. GIVEN WITH THE SEED: THE CARDS: each row of YtkdknfedieeenaaDoorRows.lean that lists a variable, with what it lists TIED to the program's text (the seventh form; the later family's looks); each row that meets fmt, with fmt's text TOLD by the authors' own Lean function (tested against real Go, not proved from fmt's source: count such statements apart). THE CARD IS WHAT COUNTS. Prove the row's statement (the work); the ties are given (YtkdknfedieeenaaDoorTie.lean); close each card by the builder's one call (the guide's Derived/Test/ToyasCard.lean, 'card_holds'). Laid BY PROGRAM, IN A SANDBOX (cutbox-door.mjs). By AI agents, Wed Nov 11 2026. No macro, syntax, notation, axiom, sorry.
-/
import Derived.Test.YtkdknfedieeenaaDoorRows
import GoSem.ClaimSeven
namespace Go.Proofs.YtkdknfedieeenaaDoor
namespace Rows

/-- THE TIED CARD OF 'bolterlaw19.SearchMatches'. -/
def searchMatchesCard : Claim7 := { stood := { row := searchMatchesRow, standIns := [], harness := (true, "1bb6dc33e7987a0f0ebe50afc25f4917e82d8c0ff77240a5a995d96de987bd41"), looks := true }, kinds := [], alts := [], laidByText := true, laidKinds := [.data, .data, .data, .sentinel, .sentinel], laidTests := true, laidLooks := .later }
def SearchMatchesCardSaid : Prop := Claim7.holds Tryd.pinned (.plain (OpenSpec.ofChange searchMatchesSpec)) searchMatchesCard

/-- THE TIED CARD OF 'bolterlaw19.SearchLess'. -/
def searchLessCard : Claim7 := { stood := { row := searchLessRow, standIns := [], harness := (true, "1bb6dc33e7987a0f0ebe50afc25f4917e82d8c0ff77240a5a995d96de987bd41"), looks := true }, kinds := [], alts := [], laidByText := true, laidKinds := [.data, .data, .data, .sentinel, .sentinel], laidTests := true, laidLooks := .later }
def SearchLessCardSaid : Prop := Claim7.holds Tryd.pinned (.plain (OpenSpec.ofChange searchLessSpec)) searchLessCard

/-- THE SECOND FORM's CARD OF 'bolterlaw19.SearchMatches'. -/
def searchMatchesUptoCard : Claim7 := { stood := { row := searchMatchesUptoRow, standIns := [], harness := (true, "1bb6dc33e7987a0f0ebe50afc25f4917e82d8c0ff77240a5a995d96de987bd41"), looks := true }, kinds := [], alts := [], laidByText := true, laidKinds := [.data, .data, .data, .sentinel, .sentinel], laidTests := true, laidLooks := .later }
def SearchMatchesUptoCardSaid : Prop := Claim7.holds Tryd.pinned (.plain (OpenSpec.upto searchMatchesSpec)) searchMatchesUptoCard

/-- THE SECOND FORM's CARD OF 'bolterlaw19.SearchLess'. -/
def searchLessUptoCard : Claim7 := { stood := { row := searchLessUptoRow, standIns := [], harness := (true, "1bb6dc33e7987a0f0ebe50afc25f4917e82d8c0ff77240a5a995d96de987bd41"), looks := true }, kinds := [], alts := [], laidByText := true, laidKinds := [.data, .data, .data, .sentinel, .sentinel], laidTests := true, laidLooks := .later }
def SearchLessUptoCardSaid : Prop := Claim7.holds Tryd.pinned (.plain (OpenSpec.upto searchLessSpec)) searchLessUptoCard
end Rows
end Go.Proofs.YtkdknfedieeenaaDoor
