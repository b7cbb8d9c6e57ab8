/-
  DERIVED. GIVEN WITH THE SEED: THE CARDS: each row of YtgfoahednmipkaaDoorRows.lean that lists a variable, with what it lists TIED to the program's text (the seventh form; the later family's looks); each row that meets fmt, with fmt's text TOLD by the authors' own Lean function (tested against real Go, not proved from fmt's source: count such statements apart). THE CARD IS WHAT COUNTS. Prove the row's statement (the work); the ties are given (YtgfoahednmipkaaDoorTie.lean); close each card by the builder's one call (the guide's Derived/Test/ToyasCard.lean, 'card_holds'). Laid BY PROGRAM, IN A SANDBOX (cutbox-door.mjs). By AI agents, Wed Nov 11 2026. No macro, syntax, notation, axiom, sorry.
-/
import Derived.Test.YtgfoahednmipkaaDoorRows
import GoSem.ClaimSeven
namespace Go.Proofs.YtgfoahednmipkaaDoor
namespace Rows

/-- THE TIED CARD OF 'bolterlaw16.TrieScript'. -/
def trieScriptCard : Claim7 := { stood := { row := trieScriptRow, standIns := [], harness := (true, "dc2025e8d32c4e3d33dd459657d23b0e4fe81d591e2c65f10e73d8e1a73226db"), looks := false }, kinds := [], alts := [], laidByText := true, laidKinds := [.data, .pinned], laidTests := true, laidLooks := .later }
def TrieScriptCardSaid : Prop := Claim7.holds Tryd.pinned (.plain (OpenSpec.ofChange trieScriptSpec)) trieScriptCard

/-- THE TIED CARD OF 'bolterlaw16.TrieMay'. -/
def trieMayCard : Claim7 := { stood := { row := trieMayRow, standIns := [], harness := (true, "dc2025e8d32c4e3d33dd459657d23b0e4fe81d591e2c65f10e73d8e1a73226db"), looks := false }, kinds := [], alts := [], laidByText := true, laidKinds := [.data, .pinned], laidTests := true, laidLooks := .later }
def TrieMayCardSaid : Prop := Claim7.holds Tryd.pinned (.plain (OpenSpec.ofChange trieMaySpec)) trieMayCard

/-- THE TIED CARD OF 'bolterlaw16.TrieOrder'. -/
def trieOrderCard : Claim7 := { stood := { row := trieOrderRow, standIns := [], harness := (true, "dc2025e8d32c4e3d33dd459657d23b0e4fe81d591e2c65f10e73d8e1a73226db"), looks := false }, kinds := [], alts := [], laidByText := true, laidKinds := [.data, .pinned], laidTests := true, laidLooks := .later }
def TrieOrderCardSaid : Prop := Claim7.holds Tryd.pinned (.plain (OpenSpec.ofChange trieOrderSpec)) trieOrderCard

/-- THE TIED CARD OF 'bolterlaw16.TrieGone'. -/
def trieGoneCard : Claim7 := { stood := { row := trieGoneRow, standIns := [], harness := (true, "dc2025e8d32c4e3d33dd459657d23b0e4fe81d591e2c65f10e73d8e1a73226db"), looks := false }, kinds := [], alts := [], laidByText := true, laidKinds := [.data, .pinned], laidTests := true, laidLooks := .later }
def TrieGoneCardSaid : Prop := Claim7.holds Tryd.pinned (.plain (OpenSpec.ofChange trieGoneSpec)) trieGoneCard

/-- THE TIED CARD OF 'bolterlaw16.TrieDeep'. -/
def trieDeepCard : Claim7 := { stood := { row := trieDeepRow, standIns := [], harness := (true, "dc2025e8d32c4e3d33dd459657d23b0e4fe81d591e2c65f10e73d8e1a73226db"), looks := false }, kinds := [], alts := [], laidByText := true, laidKinds := [.data, .pinned], laidTests := true, laidLooks := .later }
def TrieDeepCardSaid : Prop := Claim7.holds Tryd.pinned (.plain (OpenSpec.ofChange trieDeepSpec)) trieDeepCard

/-- THE TIED CARD OF 'bolterlaw16.TrieWhole'. -/
def trieWholeCard : Claim7 := { stood := { row := trieWholeRow, standIns := [], harness := (true, "dc2025e8d32c4e3d33dd459657d23b0e4fe81d591e2c65f10e73d8e1a73226db"), looks := false }, kinds := [], alts := [], laidByText := true, laidKinds := [.data, .pinned], laidTests := true, laidLooks := .later }
def TrieWholeCardSaid : Prop := Claim7.holds Tryd.pinned (.plain (OpenSpec.ofChange trieWholeSpec)) trieWholeCard

/-- THE SECOND FORM's CARD OF 'bolterlaw16.TrieScript'. -/
def trieScriptUptoCard : Claim7 := { stood := { row := trieScriptUptoRow, standIns := [], harness := (true, "dc2025e8d32c4e3d33dd459657d23b0e4fe81d591e2c65f10e73d8e1a73226db"), looks := false }, kinds := [], alts := [], laidByText := true, laidKinds := [.data, .pinned], laidTests := true, laidLooks := .later }
def TrieScriptUptoCardSaid : Prop := Claim7.holds Tryd.pinned (.plain (OpenSpec.upto trieScriptSpec)) trieScriptUptoCard

/-- THE SECOND FORM's CARD OF 'bolterlaw16.TrieMay'. -/
def trieMayUptoCard : Claim7 := { stood := { row := trieMayUptoRow, standIns := [], harness := (true, "dc2025e8d32c4e3d33dd459657d23b0e4fe81d591e2c65f10e73d8e1a73226db"), looks := false }, kinds := [], alts := [], laidByText := true, laidKinds := [.data, .pinned], laidTests := true, laidLooks := .later }
def TrieMayUptoCardSaid : Prop := Claim7.holds Tryd.pinned (.plain (OpenSpec.upto trieMaySpec)) trieMayUptoCard

/-- THE SECOND FORM's CARD OF 'bolterlaw16.TrieOrder'. -/
def trieOrderUptoCard : Claim7 := { stood := { row := trieOrderUptoRow, standIns := [], harness := (true, "dc2025e8d32c4e3d33dd459657d23b0e4fe81d591e2c65f10e73d8e1a73226db"), looks := false }, kinds := [], alts := [], laidByText := true, laidKinds := [.data, .pinned], laidTests := true, laidLooks := .later }
def TrieOrderUptoCardSaid : Prop := Claim7.holds Tryd.pinned (.plain (OpenSpec.upto trieOrderSpec)) trieOrderUptoCard

/-- THE SECOND FORM's CARD OF 'bolterlaw16.TrieGone'. -/
def trieGoneUptoCard : Claim7 := { stood := { row := trieGoneUptoRow, standIns := [], harness := (true, "dc2025e8d32c4e3d33dd459657d23b0e4fe81d591e2c65f10e73d8e1a73226db"), looks := false }, kinds := [], alts := [], laidByText := true, laidKinds := [.data, .pinned], laidTests := true, laidLooks := .later }
def TrieGoneUptoCardSaid : Prop := Claim7.holds Tryd.pinned (.plain (OpenSpec.upto trieGoneSpec)) trieGoneUptoCard

/-- THE SECOND FORM's CARD OF 'bolterlaw16.TrieDeep'. -/
def trieDeepUptoCard : Claim7 := { stood := { row := trieDeepUptoRow, standIns := [], harness := (true, "dc2025e8d32c4e3d33dd459657d23b0e4fe81d591e2c65f10e73d8e1a73226db"), looks := false }, kinds := [], alts := [], laidByText := true, laidKinds := [.data, .pinned], laidTests := true, laidLooks := .later }
def TrieDeepUptoCardSaid : Prop := Claim7.holds Tryd.pinned (.plain (OpenSpec.upto trieDeepSpec)) trieDeepUptoCard

/-- THE SECOND FORM's CARD OF 'bolterlaw16.TrieWhole'. -/
def trieWholeUptoCard : Claim7 := { stood := { row := trieWholeUptoRow, standIns := [], harness := (true, "dc2025e8d32c4e3d33dd459657d23b0e4fe81d591e2c65f10e73d8e1a73226db"), looks := false }, kinds := [], alts := [], laidByText := true, laidKinds := [.data, .pinned], laidTests := true, laidLooks := .later }
def TrieWholeUptoCardSaid : Prop := Claim7.holds Tryd.pinned (.plain (OpenSpec.upto trieWholeSpec)) trieWholeUptoCard
end Rows
end Go.Proofs.YtgfoahednmipkaaDoor
