/-
  DERIVED. GIVEN WITH THE SEED: THE CARDS: each row of YtpbbnpglcadimaaDoorRows.lean that lists a variable, with what it lists TIED to the program's text (the seventh form; the later family's looks); each row that meets fmt, with fmt's text TOLD by the authors' own Lean function (tested against real Go, not proved from fmt's source: count such statements apart). THE CARD IS WHAT COUNTS. Prove the row's statement (the work); the ties are given (YtpbbnpglcadimaaDoorTie.lean); close each card by the builder's one call (the guide's Derived/Test/ToyasCard.lean, 'card_holds'). Laid BY PROGRAM, IN A SANDBOX (cutbox-door.mjs). By AI agents, Wed Nov 11 2026. No macro, syntax, notation, axiom, sorry.
-/
import Derived.Test.YtpbbnpglcadimaaDoorRows
import GoSem.ClaimSeven
namespace Go.Proofs.YtpbbnpglcadimaaDoor
namespace Rows

/-- THE TIED CARD OF 'bolterlaw09.StreamChain'. -/
def streamChainCard : Claim7 := { stood := { row := streamChainRow, standIns := [], harness := (true, "3292434dba394247af4a6d51fb39ac1caf894a412789df33c624341806820a2f"), looks := true }, kinds := [], alts := [], laidByText := true, laidKinds := [.handle], laidTests := true, laidLooks := .later }
def StreamChainCardSaid : Prop := Claim7.holds Tryd.pinned (.plain (OpenSpec.ofChange streamChainSpec)) streamChainCard

/-- THE TIED CARD OF 'bolterlaw10.ApplyChain'. -/
def applyChainCard : Claim7 := { stood := { row := applyChainRow, standIns := [], harness := (true, "3292434dba394247af4a6d51fb39ac1caf894a412789df33c624341806820a2f"), looks := true }, kinds := [], alts := [], laidByText := true, laidKinds := [.handle], laidTests := true, laidLooks := .later }
def ApplyChainCardSaid : Prop := Claim7.holds Tryd.pinned (.plain (OpenSpec.ofChange applyChainSpec)) applyChainCard

/-- THE SECOND FORM's CARD OF 'bolterlaw09.StreamChain'. -/
def streamChainUptoCard : Claim7 := { stood := { row := streamChainUptoRow, standIns := [], harness := (true, "3292434dba394247af4a6d51fb39ac1caf894a412789df33c624341806820a2f"), looks := true }, kinds := [], alts := [], laidByText := true, laidKinds := [.handle], laidTests := true, laidLooks := .later }
def StreamChainUptoCardSaid : Prop := Claim7.holds Tryd.pinned (.plain (OpenSpec.upto streamChainSpec)) streamChainUptoCard

/-- THE SECOND FORM's CARD OF 'bolterlaw10.ApplyChain'. -/
def applyChainUptoCard : Claim7 := { stood := { row := applyChainUptoRow, standIns := [], harness := (true, "3292434dba394247af4a6d51fb39ac1caf894a412789df33c624341806820a2f"), looks := true }, kinds := [], alts := [], laidByText := true, laidKinds := [.handle], laidTests := true, laidLooks := .later }
def ApplyChainUptoCardSaid : Prop := Claim7.holds Tryd.pinned (.plain (OpenSpec.upto applyChainSpec)) applyChainUptoCard
end Rows
end Go.Proofs.YtpbbnpglcadimaaDoor
