/-
  DERIVED. GIVEN WITH THE SEED: THE CARDS: each row of YteaeplceahdioaaDoorRows.lean that lists a variable, with what it lists TIED to the program's text (the seventh form; the later family's looks); each row that meets fmt, with fmt's text TOLD by the authors' own Lean function (tested against real Go, not proved from fmt's source: count such statements apart). THE CARD IS WHAT COUNTS. Prove the row's statement (the work); the ties are given (YteaeplceahdioaaDoorTie.lean); close each card by the builder's one call (the guide's Derived/Test/ToyasCard.lean, 'card_holds'). Laid BY PROGRAM, IN A SANDBOX (cutbox-door.mjs). By AI agents, Wed Nov 11 2026. No macro, syntax, notation, axiom, sorry.
-/
import Derived.Test.YteaeplceahdioaaDoorRows
import GoSem.ClaimSeven
namespace Go.Proofs.YteaeplceahdioaaDoor
namespace Rows

/-- THE TIED CARD OF 'bolterlaw10.ApplyReplace'. -/
def applyReplaceCard : Claim7 := { stood := { row := applyReplaceRow, standIns := [], harness := (true, "2a22a14ab140895fe1e5565bb31c60dcd9d5487f9efc96df17dd9582892316d0"), looks := true }, kinds := [], alts := [], laidByText := true, laidKinds := [.handle], laidTests := true, laidLooks := .later }
def ApplyReplaceCardSaid : Prop := Claim7.holds Tryd.pinned (.plain (OpenSpec.ofChange applyReplaceSpec)) applyReplaceCard

/-- THE TIED CARD OF 'bolterlaw10.ApplyDelta'. -/
def applyDeltaCard : Claim7 := { stood := { row := applyDeltaRow, standIns := [], harness := (true, "2a22a14ab140895fe1e5565bb31c60dcd9d5487f9efc96df17dd9582892316d0"), looks := true }, kinds := [], alts := [], laidByText := true, laidKinds := [.handle], laidTests := true, laidLooks := .later }
def ApplyDeltaCardSaid : Prop := Claim7.holds Tryd.pinned (.plain (OpenSpec.ofChange applyDeltaSpec)) applyDeltaCard

/-- THE TIED CARD OF 'bolterlaw10.ApplyBetween'. -/
def applyBetweenCard : Claim7 := { stood := { row := applyBetweenRow, standIns := [], harness := (true, "2a22a14ab140895fe1e5565bb31c60dcd9d5487f9efc96df17dd9582892316d0"), looks := true }, kinds := [], alts := [], laidByText := true, laidKinds := [.handle], laidTests := true, laidLooks := .later }
def ApplyBetweenCardSaid : Prop := Claim7.holds Tryd.pinned (.plain (OpenSpec.ofChange applyBetweenSpec)) applyBetweenCard

/-- THE TIED CARD OF 'bolterlaw10.ApplyQuota'. -/
def applyQuotaCard : Claim7 := { stood := { row := applyQuotaRow, standIns := [], harness := (true, "2a22a14ab140895fe1e5565bb31c60dcd9d5487f9efc96df17dd9582892316d0"), looks := true }, kinds := [], alts := [], laidByText := true, laidKinds := [.handle], laidTests := true, laidLooks := .later }
def ApplyQuotaCardSaid : Prop := Claim7.holds Tryd.pinned (.plain (OpenSpec.ofChange applyQuotaSpec)) applyQuotaCard

/-- THE TIED CARD OF 'bolterlaw10.ApplyBack'. -/
def applyBackCard : Claim7 := { stood := { row := applyBackRow, standIns := [], harness := (true, "2a22a14ab140895fe1e5565bb31c60dcd9d5487f9efc96df17dd9582892316d0"), looks := true }, kinds := [], alts := [], laidByText := true, laidKinds := [.handle], laidTests := true, laidLooks := .later }
def ApplyBackCardSaid : Prop := Claim7.holds Tryd.pinned (.plain (OpenSpec.ofChange applyBackSpec)) applyBackCard

/-- THE TIED CARD OF 'bolterlaw10.ApplyChain'. -/
def applyChainCard : Claim7 := { stood := { row := applyChainRow, standIns := [], harness := (true, "2a22a14ab140895fe1e5565bb31c60dcd9d5487f9efc96df17dd9582892316d0"), looks := true }, kinds := [], alts := [], laidByText := true, laidKinds := [.handle], laidTests := true, laidLooks := .later }
def ApplyChainCardSaid : Prop := Claim7.holds Tryd.pinned (.plain (OpenSpec.ofChange applyChainSpec)) applyChainCard

/-- THE SECOND FORM's CARD OF 'bolterlaw10.ApplyReplace'. -/
def applyReplaceUptoCard : Claim7 := { stood := { row := applyReplaceUptoRow, standIns := [], harness := (true, "2a22a14ab140895fe1e5565bb31c60dcd9d5487f9efc96df17dd9582892316d0"), looks := true }, kinds := [], alts := [], laidByText := true, laidKinds := [.handle], laidTests := true, laidLooks := .later }
def ApplyReplaceUptoCardSaid : Prop := Claim7.holds Tryd.pinned (.plain (OpenSpec.upto applyReplaceSpec)) applyReplaceUptoCard

/-- THE SECOND FORM's CARD OF 'bolterlaw10.ApplyDelta'. -/
def applyDeltaUptoCard : Claim7 := { stood := { row := applyDeltaUptoRow, standIns := [], harness := (true, "2a22a14ab140895fe1e5565bb31c60dcd9d5487f9efc96df17dd9582892316d0"), looks := true }, kinds := [], alts := [], laidByText := true, laidKinds := [.handle], laidTests := true, laidLooks := .later }
def ApplyDeltaUptoCardSaid : Prop := Claim7.holds Tryd.pinned (.plain (OpenSpec.upto applyDeltaSpec)) applyDeltaUptoCard

/-- THE SECOND FORM's CARD OF 'bolterlaw10.ApplyBetween'. -/
def applyBetweenUptoCard : Claim7 := { stood := { row := applyBetweenUptoRow, standIns := [], harness := (true, "2a22a14ab140895fe1e5565bb31c60dcd9d5487f9efc96df17dd9582892316d0"), looks := true }, kinds := [], alts := [], laidByText := true, laidKinds := [.handle], laidTests := true, laidLooks := .later }
def ApplyBetweenUptoCardSaid : Prop := Claim7.holds Tryd.pinned (.plain (OpenSpec.upto applyBetweenSpec)) applyBetweenUptoCard

/-- THE SECOND FORM's CARD OF 'bolterlaw10.ApplyQuota'. -/
def applyQuotaUptoCard : Claim7 := { stood := { row := applyQuotaUptoRow, standIns := [], harness := (true, "2a22a14ab140895fe1e5565bb31c60dcd9d5487f9efc96df17dd9582892316d0"), looks := true }, kinds := [], alts := [], laidByText := true, laidKinds := [.handle], laidTests := true, laidLooks := .later }
def ApplyQuotaUptoCardSaid : Prop := Claim7.holds Tryd.pinned (.plain (OpenSpec.upto applyQuotaSpec)) applyQuotaUptoCard

/-- THE SECOND FORM's CARD OF 'bolterlaw10.ApplyBack'. -/
def applyBackUptoCard : Claim7 := { stood := { row := applyBackUptoRow, standIns := [], harness := (true, "2a22a14ab140895fe1e5565bb31c60dcd9d5487f9efc96df17dd9582892316d0"), looks := true }, kinds := [], alts := [], laidByText := true, laidKinds := [.handle], laidTests := true, laidLooks := .later }
def ApplyBackUptoCardSaid : Prop := Claim7.holds Tryd.pinned (.plain (OpenSpec.upto applyBackSpec)) applyBackUptoCard

/-- THE SECOND FORM's CARD OF 'bolterlaw10.ApplyChain'. -/
def applyChainUptoCard : Claim7 := { stood := { row := applyChainUptoRow, standIns := [], harness := (true, "2a22a14ab140895fe1e5565bb31c60dcd9d5487f9efc96df17dd9582892316d0"), looks := true }, kinds := [], alts := [], laidByText := true, laidKinds := [.handle], laidTests := true, laidLooks := .later }
def ApplyChainUptoCardSaid : Prop := Claim7.holds Tryd.pinned (.plain (OpenSpec.upto applyChainSpec)) applyChainUptoCard
end Rows
end Go.Proofs.YteaeplceahdioaaDoor
