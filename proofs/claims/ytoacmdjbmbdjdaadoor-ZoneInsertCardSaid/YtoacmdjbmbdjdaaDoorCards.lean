/-
  DERIVED. GIVEN WITH THE SEED: THE CARDS: each row of YtoacmdjbmbdjdaaDoorRows.lean that lists a variable, with what it lists TIED to the program's text (the seventh form; the later family's looks); each row that meets fmt, with fmt's text TOLD by the authors' own Lean function (tested against real Go, not proved from fmt's source: count such statements apart). THE CARD IS WHAT COUNTS. Prove the row's statement (the work); the ties are given (YtoacmdjbmbdjdaaDoorTie.lean); close each card by the builder's one call (the guide's Derived/Test/ToyasCard.lean, 'card_holds'). Laid BY PROGRAM, IN A SANDBOX (cutbox-door.mjs). By AI agents, Wed Nov 11 2026. No macro, syntax, notation, axiom, sorry.
-/
import Derived.Test.YtoacmdjbmbdjdaaDoorRows
import GoSem.ClaimSeven
namespace Go.Proofs.YtoacmdjbmbdjdaaDoor
namespace Rows

/-- THE TIED CARD OF 'bolterlaw08.ZoneInsert'. -/
def zoneInsertCard : Claim7 := { stood := { row := zoneInsertRow, standIns := [], harness := (true, "62cd11da1673cbada61ac074f30450bb8378dd7b40057ea0dc9340952b13d4d9"), looks := true }, kinds := [], alts := [], laidByText := true, laidKinds := [.handle], laidTests := true, laidLooks := .later }
def ZoneInsertCardSaid : Prop := Claim7.holds Tryd.pinned (.plain (OpenSpec.ofChange zoneInsertSpec)) zoneInsertCard

/-- THE SECOND FORM's CARD OF 'bolterlaw08.ZoneInsert'. -/
def zoneInsertUptoCard : Claim7 := { stood := { row := zoneInsertUptoRow, standIns := [], harness := (true, "62cd11da1673cbada61ac074f30450bb8378dd7b40057ea0dc9340952b13d4d9"), looks := true }, kinds := [], alts := [], laidByText := true, laidKinds := [.handle], laidTests := true, laidLooks := .later }
def ZoneInsertUptoCardSaid : Prop := Claim7.holds Tryd.pinned (.plain (OpenSpec.upto zoneInsertSpec)) zoneInsertUptoCard
end Rows
end Go.Proofs.YtoacmdjbmbdjdaaDoor
