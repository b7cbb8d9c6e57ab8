/-
  No cell of these rows narrows 'for every input' (looked for: loops, veiled, ifaces, maps, wideKeys, modest, calm, conditions, laid).
  DERIVED. THE GIVEN ROWS OF THIS SEAT. 12 by the template 'for every input the law returns true; each argument reads behind the call as it read before'; 0 by the template 'total and deterministic' (their statements: YtpihkelihhcihaaTotals.lean).
  GIVEN WITH THE SEED: the statements are not yours to turn. If you find one false, say at which input.
  Laid BY PROGRAM, IN A SANDBOX (cutbox-rows.mjs): the forced cells as the released guide's own fill.sh prints them over the translation 88f7cf4e935d8fa6… (all of the seat's roots in one cut). By AI agents, Wed Nov 11 2026. No macro, syntax, notation, axiom, sorry.
-/
import Derived.Test.YtpihkelihhcihaaChecked
import GoSem.Claim
import GoSem.ClaimJoined
import GoSem.ClaimMapViews
import Derived.JoinedTies
import Derived.KernelRfl
namespace Go.Proofs.Ytpihkelihhcihaa
/- THE CELL 'sum', in the pinned program and in every row, IS THE sha256 OF THE DUMP (.gsa) THAT YtpihkelihhcihaaProg.lean LOADS. Nothing in Lean hashes anything: it is a label: what it is worth is what the hold of that sum in a sandbox is worth. -/
noncomputable def Try.pinned : Pinned := { name := "ytpihkelihhcihaa", sum := "88f7cf4e935d8fa611149616e53a0d5778cc4d77141fa99f48a392935cefe94b", checked := Try.checked }
namespace Rows
def none {H : Type} : Left H := { results := [], args := [] }

/-- 'bolterlaw15.TableHash': WHATEVER THE INPUT: true; the input reads as it did. -/
def tableHashSpec : ChangeSpec := { name := "tableHash", fn := fun _ => fun
  | [d1, d2] => { results := [.lit (.bool true)], args := [d1, d2] }
  | _ => none }
def tableHashRow : OpenClaim := { program := "ytpihkelihhcihaa", sum := "88f7cf4e935d8fa611149616e53a0d5778cc4d77141fa99f48a392935cefe94b", func := "bolter/bolterlaw15.TableHash", spec := "tableHash", apart := false }
def TableHashSaid : Prop := tableHashRow.holds Try.pinned (OpenSpec.ofChange tableHashSpec)

/-- ITS FALSE NEIGHBOUR: 'it returns false'. Refute it at one input. -/
def tableHashWrong : ChangeSpec := { name := "tableHash", fn := fun _ => fun
  | [d1, d2] => { results := [.lit (.bool false)], args := [d1, d2] }
  | _ => none }
def TableHashWrongFalsely : Prop := tableHashRow.holds Try.pinned (OpenSpec.ofChange tableHashWrong)

/-- 'bolterlaw15.TableScript': WHATEVER THE INPUT: true; the input reads as it did. -/
def tableScriptSpec : ChangeSpec := { name := "tableScript", fn := fun _ => fun
  | [d] => { results := [.lit (.bool true)], args := [d] }
  | _ => none }
def tableScriptRow : OpenClaim := { program := "ytpihkelihhcihaa", sum := "88f7cf4e935d8fa611149616e53a0d5778cc4d77141fa99f48a392935cefe94b", func := "bolter/bolterlaw15.TableScript", spec := "tableScript", apart := false }
def TableScriptSaid : Prop := tableScriptRow.holds Try.pinned (OpenSpec.ofChange tableScriptSpec)

/-- ITS FALSE NEIGHBOUR: 'it returns false'. Refute it at one input. -/
def tableScriptWrong : ChangeSpec := { name := "tableScript", fn := fun _ => fun
  | [d] => { results := [.lit (.bool false)], args := [d] }
  | _ => none }
def TableScriptWrongFalsely : Prop := tableScriptRow.holds Try.pinned (OpenSpec.ofChange tableScriptWrong)

/-- 'bolterlaw15.TableSlots': WHATEVER THE INPUT: true; the input reads as it did. -/
def tableSlotsSpec : ChangeSpec := { name := "tableSlots", fn := fun _ => fun
  | [d] => { results := [.lit (.bool true)], args := [d] }
  | _ => none }
def tableSlotsRow : OpenClaim := { program := "ytpihkelihhcihaa", sum := "88f7cf4e935d8fa611149616e53a0d5778cc4d77141fa99f48a392935cefe94b", func := "bolter/bolterlaw15.TableSlots", spec := "tableSlots", apart := false }
def TableSlotsSaid : Prop := tableSlotsRow.holds Try.pinned (OpenSpec.ofChange tableSlotsSpec)

/-- ITS FALSE NEIGHBOUR: 'it returns false'. Refute it at one input. -/
def tableSlotsWrong : ChangeSpec := { name := "tableSlots", fn := fun _ => fun
  | [d] => { results := [.lit (.bool false)], args := [d] }
  | _ => none }
def TableSlotsWrongFalsely : Prop := tableSlotsRow.holds Try.pinned (OpenSpec.ofChange tableSlotsWrong)

/-- 'bolterlaw15.TableMany': WHATEVER THE INPUT: true; the input reads as it did. -/
def tableManySpec : ChangeSpec := { name := "tableMany", fn := fun _ => fun
  | [d1, d2] => { results := [.lit (.bool true)], args := [d1, d2] }
  | _ => none }
def tableManyRow : OpenClaim := { program := "ytpihkelihhcihaa", sum := "88f7cf4e935d8fa611149616e53a0d5778cc4d77141fa99f48a392935cefe94b", func := "bolter/bolterlaw15.TableMany", spec := "tableMany", unfollowed := true, recurses := true, apart := false }
def TableManySaid : Prop := tableManyRow.holds Try.pinned (OpenSpec.ofChange tableManySpec)

/-- ITS FALSE NEIGHBOUR: 'it returns false'. Refute it at one input. -/
def tableManyWrong : ChangeSpec := { name := "tableMany", fn := fun _ => fun
  | [d1, d2] => { results := [.lit (.bool false)], args := [d1, d2] }
  | _ => none }
def TableManyWrongFalsely : Prop := tableManyRow.holds Try.pinned (OpenSpec.ofChange tableManyWrong)

/-- 'bolterlaw15.TableRound': WHATEVER THE INPUT: true; the input reads as it did. -/
def tableRoundSpec : ChangeSpec := { name := "tableRound", fn := fun _ => fun
  | [d] => { results := [.lit (.bool true)], args := [d] }
  | _ => none }
def tableRoundRow : OpenClaim := { program := "ytpihkelihhcihaa", sum := "88f7cf4e935d8fa611149616e53a0d5778cc4d77141fa99f48a392935cefe94b", func := "bolter/bolterlaw15.TableRound", spec := "tableRound", apart := false }
def TableRoundSaid : Prop := tableRoundRow.holds Try.pinned (OpenSpec.ofChange tableRoundSpec)

/-- ITS FALSE NEIGHBOUR: 'it returns false'. Refute it at one input. -/
def tableRoundWrong : ChangeSpec := { name := "tableRound", fn := fun _ => fun
  | [d] => { results := [.lit (.bool false)], args := [d] }
  | _ => none }
def TableRoundWrongFalsely : Prop := tableRoundRow.holds Try.pinned (OpenSpec.ofChange tableRoundWrong)

/-- 'bolterlaw21.ReplyBase': WHATEVER THE INPUT: true; the input reads as it did. -/
def replyBaseSpec : ChangeSpec := { name := "replyBase", fn := fun _ => fun
  | [d1, d2, d3] => { results := [.lit (.bool true)], args := [d1, d2, d3] }
  | _ => none }
def replyBaseRow : OpenClaim := { program := "ytpihkelihhcihaa", sum := "88f7cf4e935d8fa611149616e53a0d5778cc4d77141fa99f48a392935cefe94b", func := "bolter/bolterlaw21.ReplyBase", spec := "replyBase", apart := false }
def ReplyBaseSaid : Prop := replyBaseRow.holds Try.pinned (OpenSpec.ofChange replyBaseSpec)

/-- ITS FALSE NEIGHBOUR: 'it returns false'. Refute it at one input. -/
def replyBaseWrong : ChangeSpec := { name := "replyBase", fn := fun _ => fun
  | [d1, d2, d3] => { results := [.lit (.bool false)], args := [d1, d2, d3] }
  | _ => none }
def ReplyBaseWrongFalsely : Prop := replyBaseRow.holds Try.pinned (OpenSpec.ofChange replyBaseWrong)

/-- 'bolterlaw21.ReplyOf': WHATEVER THE INPUT: true; the input reads as it did. -/
def replyOfSpec : ChangeSpec := { name := "replyOf", fn := fun _ => fun
  | [d1, d2, d3, d4, d5] => { results := [.lit (.bool true)], args := [d1, d2, d3, d4, d5] }
  | _ => none }
def replyOfRow : OpenClaim := { program := "ytpihkelihhcihaa", sum := "88f7cf4e935d8fa611149616e53a0d5778cc4d77141fa99f48a392935cefe94b", func := "bolter/bolterlaw21.ReplyOf", spec := "replyOf", apart := false }
def ReplyOfSaid : Prop := replyOfRow.holds Try.pinned (OpenSpec.ofChange replyOfSpec)

/-- ITS FALSE NEIGHBOUR: 'it returns false'. Refute it at one input. -/
def replyOfWrong : ChangeSpec := { name := "replyOf", fn := fun _ => fun
  | [d1, d2, d3, d4, d5] => { results := [.lit (.bool false)], args := [d1, d2, d3, d4, d5] }
  | _ => none }
def ReplyOfWrongFalsely : Prop := replyOfRow.holds Try.pinned (OpenSpec.ofChange replyOfWrong)

/-- 'bolterlaw21.ReplyChanges': WHATEVER THE INPUT: true; the input reads as it did. -/
def replyChangesSpec : ChangeSpec := { name := "replyChanges", fn := fun _ => fun
  | [d1, d2, d3, d4] => { results := [.lit (.bool true)], args := [d1, d2, d3, d4] }
  | _ => none }
def replyChangesRow : OpenClaim := { program := "ytpihkelihhcihaa", sum := "88f7cf4e935d8fa611149616e53a0d5778cc4d77141fa99f48a392935cefe94b", func := "bolter/bolterlaw21.ReplyChanges", spec := "replyChanges", apart := false }
def ReplyChangesSaid : Prop := replyChangesRow.holds Try.pinned (OpenSpec.ofChange replyChangesSpec)

/-- ITS FALSE NEIGHBOUR: 'it returns false'. Refute it at one input. -/
def replyChangesWrong : ChangeSpec := { name := "replyChanges", fn := fun _ => fun
  | [d1, d2, d3, d4] => { results := [.lit (.bool false)], args := [d1, d2, d3, d4] }
  | _ => none }
def ReplyChangesWrongFalsely : Prop := replyChangesRow.holds Try.pinned (OpenSpec.ofChange replyChangesWrong)

/-- 'bolterlaw21.ReplyFinds': WHATEVER THE INPUT: true; the input reads as it did. -/
def replyFindsSpec : ChangeSpec := { name := "replyFinds", fn := fun _ => fun
  | [d1, d2] => { results := [.lit (.bool true)], args := [d1, d2] }
  | _ => none }
def replyFindsRow : OpenClaim := { program := "ytpihkelihhcihaa", sum := "88f7cf4e935d8fa611149616e53a0d5778cc4d77141fa99f48a392935cefe94b", func := "bolter/bolterlaw21.ReplyFinds", spec := "replyFinds", apart := false }
def ReplyFindsSaid : Prop := replyFindsRow.holds Try.pinned (OpenSpec.ofChange replyFindsSpec)

/-- ITS FALSE NEIGHBOUR: 'it returns false'. Refute it at one input. -/
def replyFindsWrong : ChangeSpec := { name := "replyFinds", fn := fun _ => fun
  | [d1, d2] => { results := [.lit (.bool false)], args := [d1, d2] }
  | _ => none }
def ReplyFindsWrongFalsely : Prop := replyFindsRow.holds Try.pinned (OpenSpec.ofChange replyFindsWrong)

/-- 'bolterlaw21.ReplyHides': WHATEVER THE INPUT: true; the input reads as it did. -/
def replyHidesSpec : ChangeSpec := { name := "replyHides", fn := fun _ => fun
  | [d1, d2, d3, d4, d5] => { results := [.lit (.bool true)], args := [d1, d2, d3, d4, d5] }
  | _ => none }
def replyHidesRow : OpenClaim := { program := "ytpihkelihhcihaa", sum := "88f7cf4e935d8fa611149616e53a0d5778cc4d77141fa99f48a392935cefe94b", func := "bolter/bolterlaw21.ReplyHides", spec := "replyHides", apart := false }
def ReplyHidesSaid : Prop := replyHidesRow.holds Try.pinned (OpenSpec.ofChange replyHidesSpec)

/-- ITS FALSE NEIGHBOUR: 'it returns false'. Refute it at one input. -/
def replyHidesWrong : ChangeSpec := { name := "replyHides", fn := fun _ => fun
  | [d1, d2, d3, d4, d5] => { results := [.lit (.bool false)], args := [d1, d2, d3, d4, d5] }
  | _ => none }
def ReplyHidesWrongFalsely : Prop := replyHidesRow.holds Try.pinned (OpenSpec.ofChange replyHidesWrong)

/-- 'bolterlaw23.DeviceScript': WHATEVER THE INPUT: true; the input reads as it did. -/
def deviceScriptSpec : ChangeSpec := { name := "deviceScript", fn := fun _ => fun
  | [d] => { results := [.lit (.bool true)], args := [d] }
  | _ => none }
def deviceScriptRow : OpenClaim := { program := "ytpihkelihhcihaa", sum := "88f7cf4e935d8fa611149616e53a0d5778cc4d77141fa99f48a392935cefe94b", func := "bolter/bolterlaw23.DeviceScript", spec := "deviceScript", apart := false }
def DeviceScriptSaid : Prop := deviceScriptRow.holds Try.pinned (OpenSpec.ofChange deviceScriptSpec)

/-- ITS FALSE NEIGHBOUR: 'it returns false'. Refute it at one input. -/
def deviceScriptWrong : ChangeSpec := { name := "deviceScript", fn := fun _ => fun
  | [d] => { results := [.lit (.bool false)], args := [d] }
  | _ => none }
def DeviceScriptWrongFalsely : Prop := deviceScriptRow.holds Try.pinned (OpenSpec.ofChange deviceScriptWrong)

/-- 'bolterlaw23.DeviceKeeps': WHATEVER THE INPUT: true; the input reads as it did. -/
def deviceKeepsSpec : ChangeSpec := { name := "deviceKeeps", fn := fun _ => fun
  | [d1, d2, d3] => { results := [.lit (.bool true)], args := [d1, d2, d3] }
  | _ => none }
def deviceKeepsRow : OpenClaim := { program := "ytpihkelihhcihaa", sum := "88f7cf4e935d8fa611149616e53a0d5778cc4d77141fa99f48a392935cefe94b", func := "bolter/bolterlaw23.DeviceKeeps", spec := "deviceKeeps", apart := false }
def DeviceKeepsSaid : Prop := deviceKeepsRow.holds Try.pinned (OpenSpec.ofChange deviceKeepsSpec)

/-- ITS FALSE NEIGHBOUR: 'it returns false'. Refute it at one input. -/
def deviceKeepsWrong : ChangeSpec := { name := "deviceKeeps", fn := fun _ => fun
  | [d1, d2, d3] => { results := [.lit (.bool false)], args := [d1, d2, d3] }
  | _ => none }
def DeviceKeepsWrongFalsely : Prop := deviceKeepsRow.holds Try.pinned (OpenSpec.ofChange deviceKeepsWrong)

/- THE SECOND FORM. 'bulk': how many values and letters a reading holds, each counted each time it is reached (what is shared counts as often as it is met; a slice's spare places count too). A statement '..UptoSaid' is the law's where the arguments, and the package variables that the reading takes, are together of bulk at most 1048576: NARROWER than '..Said'. Prove '..Said' where nothing that the law and all that it calls make is longer than what came in: it says more and counts as full. Else prove '..UptoSaid'. A law counts once. -/
mutual
def uptoBulk {H : Type} : DataW H → Nat
  | .lit (.string bytes) => bytes.length + 1
  | .lit _ => 1
  | .nil => 1
  | .ptr d => uptoBulk d + 1
  | .slice elems spare => uptoBulkAll elems + uptoBulkAll spare + 1
  | .agg parts => uptoBulkAll parts + 1
  | .iface _ d => uptoBulk d + 1
  | .map entries => uptoBulkEntries entries + 1
  | .held _ => 1
def uptoBulkAll {H : Type} : List (DataW H) → Nat
  | [] => 0
  | d :: r => uptoBulk d + uptoBulkAll r
def uptoBulkEntries {H : Type} : List (Lit × DataW H) → Nat
  | [] => 0
  | x :: r => uptoBulkEntry x + uptoBulkEntries r
def uptoBulkEntry {H : Type} : Lit × DataW H → Nat
  | (.string bytes, d) => bytes.length + uptoBulk d + 1
  | (_, d) => uptoBulk d + 1
 end
def uptoSmall : (H : Type) → List (DataW H) → Bool := fun _ ds => decide (uptoBulkAll ds ≤ 1048576)
def OpenSpec.upto (s : _root_.Go.ChangeSpec) : _root_.Go.OpenSpec := { _root_.Go.OpenSpec.ofChange s with cond := some uptoSmall }

/-- 'bolterlaw15.TableHash', WHERE WHAT IT READS IS OF BULK AT MOST 1048576: true; the input reads as it did. -/
def tableHashUptoRow : OpenClaim := { program := "ytpihkelihhcihaa", sum := "88f7cf4e935d8fa611149616e53a0d5778cc4d77141fa99f48a392935cefe94b", func := "bolter/bolterlaw15.TableHash", spec := "tableHash", apart := false, narrowed := true }
def TableHashUptoSaid : Prop := tableHashUptoRow.holds Try.pinned (OpenSpec.upto tableHashSpec)

/-- 'bolterlaw15.TableScript', WHERE WHAT IT READS IS OF BULK AT MOST 1048576: true; the input reads as it did. -/
def tableScriptUptoRow : OpenClaim := { program := "ytpihkelihhcihaa", sum := "88f7cf4e935d8fa611149616e53a0d5778cc4d77141fa99f48a392935cefe94b", func := "bolter/bolterlaw15.TableScript", spec := "tableScript", apart := false, narrowed := true }
def TableScriptUptoSaid : Prop := tableScriptUptoRow.holds Try.pinned (OpenSpec.upto tableScriptSpec)

/-- 'bolterlaw15.TableSlots', WHERE WHAT IT READS IS OF BULK AT MOST 1048576: true; the input reads as it did. -/
def tableSlotsUptoRow : OpenClaim := { program := "ytpihkelihhcihaa", sum := "88f7cf4e935d8fa611149616e53a0d5778cc4d77141fa99f48a392935cefe94b", func := "bolter/bolterlaw15.TableSlots", spec := "tableSlots", apart := false, narrowed := true }
def TableSlotsUptoSaid : Prop := tableSlotsUptoRow.holds Try.pinned (OpenSpec.upto tableSlotsSpec)

/-- 'bolterlaw15.TableMany', WHERE WHAT IT READS IS OF BULK AT MOST 1048576: true; the input reads as it did. -/
def tableManyUptoRow : OpenClaim := { program := "ytpihkelihhcihaa", sum := "88f7cf4e935d8fa611149616e53a0d5778cc4d77141fa99f48a392935cefe94b", func := "bolter/bolterlaw15.TableMany", spec := "tableMany", unfollowed := true, recurses := true, apart := false, narrowed := true }
def TableManyUptoSaid : Prop := tableManyUptoRow.holds Try.pinned (OpenSpec.upto tableManySpec)

/-- 'bolterlaw15.TableRound', WHERE WHAT IT READS IS OF BULK AT MOST 1048576: true; the input reads as it did. -/
def tableRoundUptoRow : OpenClaim := { program := "ytpihkelihhcihaa", sum := "88f7cf4e935d8fa611149616e53a0d5778cc4d77141fa99f48a392935cefe94b", func := "bolter/bolterlaw15.TableRound", spec := "tableRound", apart := false, narrowed := true }
def TableRoundUptoSaid : Prop := tableRoundUptoRow.holds Try.pinned (OpenSpec.upto tableRoundSpec)

/-- 'bolterlaw21.ReplyBase', WHERE WHAT IT READS IS OF BULK AT MOST 1048576: true; the input reads as it did. -/
def replyBaseUptoRow : OpenClaim := { program := "ytpihkelihhcihaa", sum := "88f7cf4e935d8fa611149616e53a0d5778cc4d77141fa99f48a392935cefe94b", func := "bolter/bolterlaw21.ReplyBase", spec := "replyBase", apart := false, narrowed := true }
def ReplyBaseUptoSaid : Prop := replyBaseUptoRow.holds Try.pinned (OpenSpec.upto replyBaseSpec)

/-- 'bolterlaw21.ReplyOf', WHERE WHAT IT READS IS OF BULK AT MOST 1048576: true; the input reads as it did. -/
def replyOfUptoRow : OpenClaim := { program := "ytpihkelihhcihaa", sum := "88f7cf4e935d8fa611149616e53a0d5778cc4d77141fa99f48a392935cefe94b", func := "bolter/bolterlaw21.ReplyOf", spec := "replyOf", apart := false, narrowed := true }
def ReplyOfUptoSaid : Prop := replyOfUptoRow.holds Try.pinned (OpenSpec.upto replyOfSpec)

/-- 'bolterlaw21.ReplyChanges', WHERE WHAT IT READS IS OF BULK AT MOST 1048576: true; the input reads as it did. -/
def replyChangesUptoRow : OpenClaim := { program := "ytpihkelihhcihaa", sum := "88f7cf4e935d8fa611149616e53a0d5778cc4d77141fa99f48a392935cefe94b", func := "bolter/bolterlaw21.ReplyChanges", spec := "replyChanges", apart := false, narrowed := true }
def ReplyChangesUptoSaid : Prop := replyChangesUptoRow.holds Try.pinned (OpenSpec.upto replyChangesSpec)

/-- 'bolterlaw21.ReplyFinds', WHERE WHAT IT READS IS OF BULK AT MOST 1048576: true; the input reads as it did. -/
def replyFindsUptoRow : OpenClaim := { program := "ytpihkelihhcihaa", sum := "88f7cf4e935d8fa611149616e53a0d5778cc4d77141fa99f48a392935cefe94b", func := "bolter/bolterlaw21.ReplyFinds", spec := "replyFinds", apart := false, narrowed := true }
def ReplyFindsUptoSaid : Prop := replyFindsUptoRow.holds Try.pinned (OpenSpec.upto replyFindsSpec)

/-- 'bolterlaw21.ReplyHides', WHERE WHAT IT READS IS OF BULK AT MOST 1048576: true; the input reads as it did. -/
def replyHidesUptoRow : OpenClaim := { program := "ytpihkelihhcihaa", sum := "88f7cf4e935d8fa611149616e53a0d5778cc4d77141fa99f48a392935cefe94b", func := "bolter/bolterlaw21.ReplyHides", spec := "replyHides", apart := false, narrowed := true }
def ReplyHidesUptoSaid : Prop := replyHidesUptoRow.holds Try.pinned (OpenSpec.upto replyHidesSpec)

/-- 'bolterlaw23.DeviceScript', WHERE WHAT IT READS IS OF BULK AT MOST 1048576: true; the input reads as it did. -/
def deviceScriptUptoRow : OpenClaim := { program := "ytpihkelihhcihaa", sum := "88f7cf4e935d8fa611149616e53a0d5778cc4d77141fa99f48a392935cefe94b", func := "bolter/bolterlaw23.DeviceScript", spec := "deviceScript", apart := false, narrowed := true }
def DeviceScriptUptoSaid : Prop := deviceScriptUptoRow.holds Try.pinned (OpenSpec.upto deviceScriptSpec)

/-- 'bolterlaw23.DeviceKeeps', WHERE WHAT IT READS IS OF BULK AT MOST 1048576: true; the input reads as it did. -/
def deviceKeepsUptoRow : OpenClaim := { program := "ytpihkelihhcihaa", sum := "88f7cf4e935d8fa611149616e53a0d5778cc4d77141fa99f48a392935cefe94b", func := "bolter/bolterlaw23.DeviceKeeps", spec := "deviceKeeps", apart := false, narrowed := true }
def DeviceKeepsUptoSaid : Prop := deviceKeepsUptoRow.holds Try.pinned (OpenSpec.upto deviceKeepsSpec)

end Rows
end Go.Proofs.Ytpihkelihhcihaa
