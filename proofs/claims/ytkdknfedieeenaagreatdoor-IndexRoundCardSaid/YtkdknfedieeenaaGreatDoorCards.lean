/-
  DERIVED. GIVEN WITH THE SEED: THE CARDS: each row of YtkdknfedieeenaaGreatDoorRows.lean that lists a variable, with what it lists TIED to the program's text (the seventh form; the later family's looks); each row that meets fmt, with fmt's text TOLD by the authors' own Lean function (tested against real Go, not proved from fmt's source: count such statements apart). THE CARD IS WHAT COUNTS. Prove the row's statement (the work); the ties are given (YtkdknfedieeenaaGreatDoorTie.lean); close each card by the builder's one call (the guide's Derived/Test/ToyasCard.lean, 'card_holds'). Laid BY PROGRAM, IN A SANDBOX (cutbox-door.mjs). By AI agents, Wed Nov 11 2026. No macro, syntax, notation, axiom, sorry.
-/
import Derived.Test.YtkdknfedieeenaaGreatDoorRows
import GoSem.ClaimSeven
namespace Go.Proofs.YtkdknfedieeenaaGreatDoor
namespace Rows

/-- THE TIED CARD OF 'bolterlaw19.SearchNode'. -/
def searchNodeCard : Claim7 := { stood := { row := searchNodeRow, standIns := [], harness := (true, "29a457cff2603d80e16ab024e067710ba08869bdd319fef5e1f693107c2315ba"), looks := true }, kinds := [], alts := [], laidByText := true, laidKinds := [.data, .data, .data, .sentinel, .sentinel], laidTests := true, laidLooks := .later }
def SearchNodeCardSaid : Prop := Claim7.holds Tryz.pinned (.plain (OpenSpec.ofChange searchNodeSpec)) searchNodeCard

/-- THE TIED CARD OF 'bolterlaw19.SearchWins'. -/
def searchWinsCard : Claim7 := { stood := { row := searchWinsRow, standIns := [], harness := (true, "29a457cff2603d80e16ab024e067710ba08869bdd319fef5e1f693107c2315ba"), looks := true }, kinds := [], alts := [], laidByText := true, laidKinds := [.data, .data, .data, .sentinel, .sentinel], laidTests := true, laidLooks := .later }
def SearchWinsCardSaid : Prop := Claim7.holds Tryz.pinned (.plain (OpenSpec.ofChange searchWinsSpec)) searchWinsCard

/-- THE TIED CARD OF 'bolterlaw19.SearchZones'. -/
def searchZonesCard : Claim7 := { stood := { row := searchZonesRow, standIns := [], harness := (true, "29a457cff2603d80e16ab024e067710ba08869bdd319fef5e1f693107c2315ba"), looks := true }, kinds := [], alts := [], laidByText := true, laidKinds := [.data, .data, .data, .sentinel, .sentinel], laidTests := true, laidLooks := .later }
def SearchZonesCardSaid : Prop := Claim7.holds Tryz.pinned (.plain (OpenSpec.ofChange searchZonesSpec)) searchZonesCard

/-- THE TIED CARD OF 'bolterlaw17.IndexScript'. -/
def indexScriptCard : Claim7 := { stood := { row := indexScriptRow, standIns := [], harness := (true, "29a457cff2603d80e16ab024e067710ba08869bdd319fef5e1f693107c2315ba"), looks := true }, kinds := [], alts := [], laidByText := true, laidKinds := [.data, .data, .data, .data, .sentinel, .sentinel, .pinned], laidTests := true, laidLooks := .later }
def IndexScriptCardSaid : Prop := Claim7.holds Tryz.pinned (.plain (OpenSpec.ofChange indexScriptSpec)) indexScriptCard

/-- THE TIED CARD OF 'bolterlaw17.IndexNone'. -/
def indexNoneCard : Claim7 := { stood := { row := indexNoneRow, standIns := [], harness := (true, "29a457cff2603d80e16ab024e067710ba08869bdd319fef5e1f693107c2315ba"), looks := true }, kinds := [], alts := [], laidByText := true, laidKinds := [.data, .data, .data, .data, .sentinel, .sentinel, .pinned], laidTests := true, laidLooks := .later }
def IndexNoneCardSaid : Prop := Claim7.holds Tryz.pinned (.plain (OpenSpec.ofChange indexNoneSpec)) indexNoneCard

/-- THE TIED CARD OF 'bolterlaw17.IndexApart'. -/
def indexApartCard : Claim7 := { stood := { row := indexApartRow, standIns := [], harness := (true, "29a457cff2603d80e16ab024e067710ba08869bdd319fef5e1f693107c2315ba"), looks := true }, kinds := [], alts := [], laidByText := true, laidKinds := [.data, .data, .data, .data, .sentinel, .sentinel, .pinned], laidTests := true, laidLooks := .later }
def IndexApartCardSaid : Prop := Claim7.holds Tryz.pinned (.plain (OpenSpec.ofChange indexApartSpec)) indexApartCard

/-- THE TIED CARD OF 'bolterlaw17.IndexAll'. -/
def indexAllCard : Claim7 := { stood := { row := indexAllRow, standIns := [], harness := (true, "29a457cff2603d80e16ab024e067710ba08869bdd319fef5e1f693107c2315ba"), looks := true }, kinds := [], alts := [], laidByText := true, laidKinds := [.data, .data, .data, .data, .sentinel, .sentinel, .pinned], laidTests := true, laidLooks := .later }
def IndexAllCardSaid : Prop := Claim7.holds Tryz.pinned (.plain (OpenSpec.ofChange indexAllSpec)) indexAllCard

/-- THE TIED CARD OF 'bolterlaw17.IndexRound'. -/
def indexRoundCard : Claim7 := { stood := { row := indexRoundRow, standIns := [], harness := (true, "29a457cff2603d80e16ab024e067710ba08869bdd319fef5e1f693107c2315ba"), looks := true }, kinds := [], alts := [], laidByText := true, laidKinds := [.data, .data, .data, .data, .sentinel, .sentinel, .pinned], laidTests := true, laidLooks := .later }
def IndexRoundCardSaid : Prop := Claim7.holds Tryz.pinned (.plain (OpenSpec.ofChange indexRoundSpec)) indexRoundCard

/-- THE SECOND FORM's CARD OF 'bolterlaw19.SearchNode'. -/
def searchNodeUptoCard : Claim7 := { stood := { row := searchNodeUptoRow, standIns := [], harness := (true, "29a457cff2603d80e16ab024e067710ba08869bdd319fef5e1f693107c2315ba"), looks := true }, kinds := [], alts := [], laidByText := true, laidKinds := [.data, .data, .data, .sentinel, .sentinel], laidTests := true, laidLooks := .later }
def SearchNodeUptoCardSaid : Prop := Claim7.holds Tryz.pinned (.plain (OpenSpec.upto searchNodeSpec)) searchNodeUptoCard

/-- THE SECOND FORM's CARD OF 'bolterlaw19.SearchWins'. -/
def searchWinsUptoCard : Claim7 := { stood := { row := searchWinsUptoRow, standIns := [], harness := (true, "29a457cff2603d80e16ab024e067710ba08869bdd319fef5e1f693107c2315ba"), looks := true }, kinds := [], alts := [], laidByText := true, laidKinds := [.data, .data, .data, .sentinel, .sentinel], laidTests := true, laidLooks := .later }
def SearchWinsUptoCardSaid : Prop := Claim7.holds Tryz.pinned (.plain (OpenSpec.upto searchWinsSpec)) searchWinsUptoCard

/-- THE SECOND FORM's CARD OF 'bolterlaw19.SearchZones'. -/
def searchZonesUptoCard : Claim7 := { stood := { row := searchZonesUptoRow, standIns := [], harness := (true, "29a457cff2603d80e16ab024e067710ba08869bdd319fef5e1f693107c2315ba"), looks := true }, kinds := [], alts := [], laidByText := true, laidKinds := [.data, .data, .data, .sentinel, .sentinel], laidTests := true, laidLooks := .later }
def SearchZonesUptoCardSaid : Prop := Claim7.holds Tryz.pinned (.plain (OpenSpec.upto searchZonesSpec)) searchZonesUptoCard

/-- THE SECOND FORM's CARD OF 'bolterlaw17.IndexScript'. -/
def indexScriptUptoCard : Claim7 := { stood := { row := indexScriptUptoRow, standIns := [], harness := (true, "29a457cff2603d80e16ab024e067710ba08869bdd319fef5e1f693107c2315ba"), looks := true }, kinds := [], alts := [], laidByText := true, laidKinds := [.data, .data, .data, .data, .sentinel, .sentinel, .pinned], laidTests := true, laidLooks := .later }
def IndexScriptUptoCardSaid : Prop := Claim7.holds Tryz.pinned (.plain (OpenSpec.upto indexScriptSpec)) indexScriptUptoCard

/-- THE SECOND FORM's CARD OF 'bolterlaw17.IndexNone'. -/
def indexNoneUptoCard : Claim7 := { stood := { row := indexNoneUptoRow, standIns := [], harness := (true, "29a457cff2603d80e16ab024e067710ba08869bdd319fef5e1f693107c2315ba"), looks := true }, kinds := [], alts := [], laidByText := true, laidKinds := [.data, .data, .data, .data, .sentinel, .sentinel, .pinned], laidTests := true, laidLooks := .later }
def IndexNoneUptoCardSaid : Prop := Claim7.holds Tryz.pinned (.plain (OpenSpec.upto indexNoneSpec)) indexNoneUptoCard

/-- THE SECOND FORM's CARD OF 'bolterlaw17.IndexApart'. -/
def indexApartUptoCard : Claim7 := { stood := { row := indexApartUptoRow, standIns := [], harness := (true, "29a457cff2603d80e16ab024e067710ba08869bdd319fef5e1f693107c2315ba"), looks := true }, kinds := [], alts := [], laidByText := true, laidKinds := [.data, .data, .data, .data, .sentinel, .sentinel, .pinned], laidTests := true, laidLooks := .later }
def IndexApartUptoCardSaid : Prop := Claim7.holds Tryz.pinned (.plain (OpenSpec.upto indexApartSpec)) indexApartUptoCard

/-- THE SECOND FORM's CARD OF 'bolterlaw17.IndexAll'. -/
def indexAllUptoCard : Claim7 := { stood := { row := indexAllUptoRow, standIns := [], harness := (true, "29a457cff2603d80e16ab024e067710ba08869bdd319fef5e1f693107c2315ba"), looks := true }, kinds := [], alts := [], laidByText := true, laidKinds := [.data, .data, .data, .data, .sentinel, .sentinel, .pinned], laidTests := true, laidLooks := .later }
def IndexAllUptoCardSaid : Prop := Claim7.holds Tryz.pinned (.plain (OpenSpec.upto indexAllSpec)) indexAllUptoCard

/-- THE SECOND FORM's CARD OF 'bolterlaw17.IndexRound'. -/
def indexRoundUptoCard : Claim7 := { stood := { row := indexRoundUptoRow, standIns := [], harness := (true, "29a457cff2603d80e16ab024e067710ba08869bdd319fef5e1f693107c2315ba"), looks := true }, kinds := [], alts := [], laidByText := true, laidKinds := [.data, .data, .data, .data, .sentinel, .sentinel, .pinned], laidTests := true, laidLooks := .later }
def IndexRoundUptoCardSaid : Prop := Claim7.holds Tryz.pinned (.plain (OpenSpec.upto indexRoundSpec)) indexRoundUptoCard
end Rows
end Go.Proofs.YtkdknfedieeenaaGreatDoor
