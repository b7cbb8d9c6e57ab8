/-
  No cell of these rows narrows 'for every input' (looked for: loops, veiled, ifaces, maps, wideKeys, modest, calm, conditions, laid).
  DERIVED. THE GIVEN ROWS OF THIS SEAT. 11 by the template 'for every input the law returns true; each argument reads behind the call as it read before'; 0 by the template 'total and deterministic' (their statements: YtigfopkdcmlcnaaTotals.lean).
  GIVEN WITH THE SEED: the statements are not yours to turn. If you find one false, say at which input.
  Laid BY PROGRAM, IN A SANDBOX (cutbox-rows.mjs): the forced cells as the released guide's own fill.sh prints them over the translation 9e26017503833eef… (all of the seat's roots in one cut). By AI agents, Wed Nov 11 2026. No macro, syntax, notation, axiom, sorry.
-/
import Derived.Test.YtigfopkdcmlcnaaChecked
import GoSem.Claim
import GoSem.ClaimJoined
import GoSem.ClaimMapViews
import Derived.JoinedTies
import Derived.KernelRfl
namespace Go.Proofs.Ytigfopkdcmlcnaa
/- THE CELL 'sum', in the pinned program and in every row, IS THE sha256 OF THE DUMP (.gsa) THAT YtigfopkdcmlcnaaProg.lean LOADS. Nothing in Lean hashes anything: it is a label: what it is worth is what the hold of that sum in a sandbox is worth. -/
noncomputable def Try.pinned : Pinned := { name := "ytigfopkdcmlcnaa", sum := "9e26017503833eefc0f034e1dc4b604d8cd563570fccbda50c97ae3fcba3d666", checked := Try.checked }
namespace Rows
def none {H : Type} : Left H := { results := [], args := [] }

/-- 'bolterlaw08.ZoneCompare': WHATEVER THE INPUT: true; the input reads as it did. -/
def zoneCompareSpec : ChangeSpec := { name := "zoneCompare", fn := fun _ => fun
  | [d1, d2, d3] => { results := [.lit (.bool true)], args := [d1, d2, d3] }
  | _ => none }
def zoneCompareRow : OpenClaim := { program := "ytigfopkdcmlcnaa", sum := "9e26017503833eefc0f034e1dc4b604d8cd563570fccbda50c97ae3fcba3d666", func := "bolter/bolterlaw08.ZoneCompare", spec := "zoneCompare", apart := false }
def ZoneCompareSaid : Prop := zoneCompareRow.holds Try.pinned (OpenSpec.ofChange zoneCompareSpec)

/-- ITS FALSE NEIGHBOUR: 'it returns false'. Refute it at one input. -/
def zoneCompareWrong : ChangeSpec := { name := "zoneCompare", fn := fun _ => fun
  | [d1, d2, d3] => { results := [.lit (.bool false)], args := [d1, d2, d3] }
  | _ => none }
def ZoneCompareWrongFalsely : Prop := zoneCompareRow.holds Try.pinned (OpenSpec.ofChange zoneCompareWrong)

/-- 'bolterlaw08.ZoneFits': WHATEVER THE INPUT: true; the input reads as it did. -/
def zoneFitsSpec : ChangeSpec := { name := "zoneFits", fn := fun _ => fun
  | [d1, d2] => { results := [.lit (.bool true)], args := [d1, d2] }
  | _ => none }
def zoneFitsRow : OpenClaim := { program := "ytigfopkdcmlcnaa", sum := "9e26017503833eefc0f034e1dc4b604d8cd563570fccbda50c97ae3fcba3d666", func := "bolter/bolterlaw08.ZoneFits", spec := "zoneFits", apart := false }
def ZoneFitsSaid : Prop := zoneFitsRow.holds Try.pinned (OpenSpec.ofChange zoneFitsSpec)

/-- ITS FALSE NEIGHBOUR: 'it returns false'. Refute it at one input. -/
def zoneFitsWrong : ChangeSpec := { name := "zoneFits", fn := fun _ => fun
  | [d1, d2] => { results := [.lit (.bool false)], args := [d1, d2] }
  | _ => none }
def ZoneFitsWrongFalsely : Prop := zoneFitsRow.holds Try.pinned (OpenSpec.ofChange zoneFitsWrong)

/-- 'bolterlaw08.ZoneSoa': WHATEVER THE INPUT: true; the input reads as it did. -/
def zoneSoaSpec : ChangeSpec := { name := "zoneSoa", fn := fun _ => fun
  | [d] => { results := [.lit (.bool true)], args := [d] }
  | _ => none }
def zoneSoaRow : OpenClaim := { program := "ytigfopkdcmlcnaa", sum := "9e26017503833eefc0f034e1dc4b604d8cd563570fccbda50c97ae3fcba3d666", func := "bolter/bolterlaw08.ZoneSoa", spec := "zoneSoa", apart := false }
def ZoneSoaSaid : Prop := zoneSoaRow.holds Try.pinned (OpenSpec.ofChange zoneSoaSpec)

/-- ITS FALSE NEIGHBOUR: 'it returns false'. Refute it at one input. -/
def zoneSoaWrong : ChangeSpec := { name := "zoneSoa", fn := fun _ => fun
  | [d] => { results := [.lit (.bool false)], args := [d] }
  | _ => none }
def ZoneSoaWrongFalsely : Prop := zoneSoaRow.holds Try.pinned (OpenSpec.ofChange zoneSoaWrong)

/-- 'bolterlaw08.ZoneAt': WHATEVER THE INPUT: true; the input reads as it did. -/
def zoneAtSpec : ChangeSpec := { name := "zoneAt", fn := fun _ => fun
  | [d1, d2] => { results := [.lit (.bool true)], args := [d1, d2] }
  | _ => none }
def zoneAtRow : OpenClaim := { program := "ytigfopkdcmlcnaa", sum := "9e26017503833eefc0f034e1dc4b604d8cd563570fccbda50c97ae3fcba3d666", func := "bolter/bolterlaw08.ZoneAt", spec := "zoneAt", apart := false }
def ZoneAtSaid : Prop := zoneAtRow.holds Try.pinned (OpenSpec.ofChange zoneAtSpec)

/-- ITS FALSE NEIGHBOUR: 'it returns false'. Refute it at one input. -/
def zoneAtWrong : ChangeSpec := { name := "zoneAt", fn := fun _ => fun
  | [d1, d2] => { results := [.lit (.bool false)], args := [d1, d2] }
  | _ => none }
def ZoneAtWrongFalsely : Prop := zoneAtRow.holds Try.pinned (OpenSpec.ofChange zoneAtWrong)

/-- 'bolterlaw21.ReplyChanges': WHATEVER THE INPUT: true; the input reads as it did. -/
def replyChangesSpec : ChangeSpec := { name := "replyChanges", fn := fun _ => fun
  | [d1, d2, d3, d4] => { results := [.lit (.bool true)], args := [d1, d2, d3, d4] }
  | _ => none }
def replyChangesRow : OpenClaim := { program := "ytigfopkdcmlcnaa", sum := "9e26017503833eefc0f034e1dc4b604d8cd563570fccbda50c97ae3fcba3d666", func := "bolter/bolterlaw21.ReplyChanges", spec := "replyChanges", apart := false }
def ReplyChangesSaid : Prop := replyChangesRow.holds Try.pinned (OpenSpec.ofChange replyChangesSpec)

/-- ITS FALSE NEIGHBOUR: 'it returns false'. Refute it at one input. -/
def replyChangesWrong : ChangeSpec := { name := "replyChanges", fn := fun _ => fun
  | [d1, d2, d3, d4] => { results := [.lit (.bool false)], args := [d1, d2, d3, d4] }
  | _ => none }
def ReplyChangesWrongFalsely : Prop := replyChangesRow.holds Try.pinned (OpenSpec.ofChange replyChangesWrong)

/-- 'bolterlaw21.ReplyBase': WHATEVER THE INPUT: true; the input reads as it did. -/
def replyBaseSpec : ChangeSpec := { name := "replyBase", fn := fun _ => fun
  | [d1, d2, d3] => { results := [.lit (.bool true)], args := [d1, d2, d3] }
  | _ => none }
def replyBaseRow : OpenClaim := { program := "ytigfopkdcmlcnaa", sum := "9e26017503833eefc0f034e1dc4b604d8cd563570fccbda50c97ae3fcba3d666", func := "bolter/bolterlaw21.ReplyBase", spec := "replyBase", apart := false }
def ReplyBaseSaid : Prop := replyBaseRow.holds Try.pinned (OpenSpec.ofChange replyBaseSpec)

/-- ITS FALSE NEIGHBOUR: 'it returns false'. Refute it at one input. -/
def replyBaseWrong : ChangeSpec := { name := "replyBase", fn := fun _ => fun
  | [d1, d2, d3] => { results := [.lit (.bool false)], args := [d1, d2, d3] }
  | _ => none }
def ReplyBaseWrongFalsely : Prop := replyBaseRow.holds Try.pinned (OpenSpec.ofChange replyBaseWrong)

/-- 'bolterlaw23.DeviceOwn': WHATEVER THE INPUT: true; the input reads as it did. -/
def deviceOwnSpec : ChangeSpec := { name := "deviceOwn", fn := fun _ => fun
  | [d1, d2] => { results := [.lit (.bool true)], args := [d1, d2] }
  | _ => none }
def deviceOwnRow : OpenClaim := { program := "ytigfopkdcmlcnaa", sum := "9e26017503833eefc0f034e1dc4b604d8cd563570fccbda50c97ae3fcba3d666", func := "bolter/bolterlaw23.DeviceOwn", spec := "deviceOwn", apart := false }
def DeviceOwnSaid : Prop := deviceOwnRow.holds Try.pinned (OpenSpec.ofChange deviceOwnSpec)

/-- ITS FALSE NEIGHBOUR: 'it returns false'. Refute it at one input. -/
def deviceOwnWrong : ChangeSpec := { name := "deviceOwn", fn := fun _ => fun
  | [d1, d2] => { results := [.lit (.bool false)], args := [d1, d2] }
  | _ => none }
def DeviceOwnWrongFalsely : Prop := deviceOwnRow.holds Try.pinned (OpenSpec.ofChange deviceOwnWrong)

/-- 'bolterlaw23.DeviceKeeps': WHATEVER THE INPUT: true; the input reads as it did. -/
def deviceKeepsSpec : ChangeSpec := { name := "deviceKeeps", fn := fun _ => fun
  | [d1, d2, d3] => { results := [.lit (.bool true)], args := [d1, d2, d3] }
  | _ => none }
def deviceKeepsRow : OpenClaim := { program := "ytigfopkdcmlcnaa", sum := "9e26017503833eefc0f034e1dc4b604d8cd563570fccbda50c97ae3fcba3d666", func := "bolter/bolterlaw23.DeviceKeeps", spec := "deviceKeeps", apart := false }
def DeviceKeepsSaid : Prop := deviceKeepsRow.holds Try.pinned (OpenSpec.ofChange deviceKeepsSpec)

/-- ITS FALSE NEIGHBOUR: 'it returns false'. Refute it at one input. -/
def deviceKeepsWrong : ChangeSpec := { name := "deviceKeeps", fn := fun _ => fun
  | [d1, d2, d3] => { results := [.lit (.bool false)], args := [d1, d2, d3] }
  | _ => none }
def DeviceKeepsWrongFalsely : Prop := deviceKeepsRow.holds Try.pinned (OpenSpec.ofChange deviceKeepsWrong)

/-- 'bolterlaw23.DeviceBegins': WHATEVER THE INPUT: true; the input reads as it did. -/
def deviceBeginsSpec : ChangeSpec := { name := "deviceBegins", fn := fun _ => fun
  | [d1, d2] => { results := [.lit (.bool true)], args := [d1, d2] }
  | _ => none }
def deviceBeginsRow : OpenClaim := { program := "ytigfopkdcmlcnaa", sum := "9e26017503833eefc0f034e1dc4b604d8cd563570fccbda50c97ae3fcba3d666", func := "bolter/bolterlaw23.DeviceBegins", spec := "deviceBegins", apart := false }
def DeviceBeginsSaid : Prop := deviceBeginsRow.holds Try.pinned (OpenSpec.ofChange deviceBeginsSpec)

/-- ITS FALSE NEIGHBOUR: 'it returns false'. Refute it at one input. -/
def deviceBeginsWrong : ChangeSpec := { name := "deviceBegins", fn := fun _ => fun
  | [d1, d2] => { results := [.lit (.bool false)], args := [d1, d2] }
  | _ => none }
def DeviceBeginsWrongFalsely : Prop := deviceBeginsRow.holds Try.pinned (OpenSpec.ofChange deviceBeginsWrong)

/-- 'bolterlaw26.PendingFree': WHATEVER THE INPUT: true; the input reads as it did. -/
def pendingFreeSpec : ChangeSpec := { name := "pendingFree", fn := fun _ => fun
  | [d1, d2] => { results := [.lit (.bool true)], args := [d1, d2] }
  | _ => none }
def pendingFreeRow : OpenClaim := { program := "ytigfopkdcmlcnaa", sum := "9e26017503833eefc0f034e1dc4b604d8cd563570fccbda50c97ae3fcba3d666", func := "bolter/bolterlaw26.PendingFree", spec := "pendingFree", apart := false }
def PendingFreeSaid : Prop := pendingFreeRow.holds Try.pinned (OpenSpec.ofChange pendingFreeSpec)

/-- ITS FALSE NEIGHBOUR: 'it returns false'. Refute it at one input. -/
def pendingFreeWrong : ChangeSpec := { name := "pendingFree", fn := fun _ => fun
  | [d1, d2] => { results := [.lit (.bool false)], args := [d1, d2] }
  | _ => none }
def PendingFreeWrongFalsely : Prop := pendingFreeRow.holds Try.pinned (OpenSpec.ofChange pendingFreeWrong)

/-- 'bolterlaw24.JournalNone': WHATEVER THE INPUT: true; the input reads as it did. -/
def journalNoneSpec : ChangeSpec := { name := "journalNone", fn := fun _ => fun
  | [d] => { results := [.lit (.bool true)], args := [d] }
  | _ => none }
def journalNoneRow : OpenClaim := { program := "ytigfopkdcmlcnaa", sum := "9e26017503833eefc0f034e1dc4b604d8cd563570fccbda50c97ae3fcba3d666", func := "bolter/bolterlaw24.JournalNone", spec := "journalNone", apart := false }
def JournalNoneSaid : Prop := journalNoneRow.holds Try.pinned (OpenSpec.ofChange journalNoneSpec)

/-- ITS FALSE NEIGHBOUR: 'it returns false'. Refute it at one input. -/
def journalNoneWrong : ChangeSpec := { name := "journalNone", fn := fun _ => fun
  | [d] => { results := [.lit (.bool false)], args := [d] }
  | _ => none }
def JournalNoneWrongFalsely : Prop := journalNoneRow.holds Try.pinned (OpenSpec.ofChange journalNoneWrong)

/- THE SECOND FORM. 'bulk': how many values and letters a reading holds, each counted each time it is reached (what is shared counts as often as it is met; a slice's spare places count too). A statement '..UptoSaid' is the law's where the arguments, and the package variables that the reading takes, are together of bulk at most 1048576: NARROWER than '..Said'. Prove '..Said' where nothing that the law and all that it calls make is longer than what came in: it says more and counts as full. Else prove '..UptoSaid'. A law counts once. -/
mutual
def uptoBulk {H : Type} : DataW H → Nat
  | .lit (.string bytes) => bytes.length + 1
  | .lit _ => 1
  | .nil => 1
  | .ptr d => uptoBulk d + 1
  | .slice elems spare => uptoBulkAll elems + uptoBulkAll spare + 1
  | .agg parts => uptoBulkAll parts + 1
  | .iface _ d => uptoBulk d + 1
  | .map entries => uptoBulkEntries entries + 1
  | .held _ => 1
def uptoBulkAll {H : Type} : List (DataW H) → Nat
  | [] => 0
  | d :: r => uptoBulk d + uptoBulkAll r
def uptoBulkEntries {H : Type} : List (Lit × DataW H) → Nat
  | [] => 0
  | x :: r => uptoBulkEntry x + uptoBulkEntries r
def uptoBulkEntry {H : Type} : Lit × DataW H → Nat
  | (.string bytes, d) => bytes.length + uptoBulk d + 1
  | (_, d) => uptoBulk d + 1
 end
def uptoSmall : (H : Type) → List (DataW H) → Bool := fun _ ds => decide (uptoBulkAll ds ≤ 1048576)
def OpenSpec.upto (s : _root_.Go.ChangeSpec) : _root_.Go.OpenSpec := { _root_.Go.OpenSpec.ofChange s with cond := some uptoSmall }

/-- 'bolterlaw08.ZoneCompare', WHERE WHAT IT READS IS OF BULK AT MOST 1048576: true; the input reads as it did. -/
def zoneCompareUptoRow : OpenClaim := { program := "ytigfopkdcmlcnaa", sum := "9e26017503833eefc0f034e1dc4b604d8cd563570fccbda50c97ae3fcba3d666", func := "bolter/bolterlaw08.ZoneCompare", spec := "zoneCompare", apart := false, narrowed := true }
def ZoneCompareUptoSaid : Prop := zoneCompareUptoRow.holds Try.pinned (OpenSpec.upto zoneCompareSpec)

/-- 'bolterlaw08.ZoneFits', WHERE WHAT IT READS IS OF BULK AT MOST 1048576: true; the input reads as it did. -/
def zoneFitsUptoRow : OpenClaim := { program := "ytigfopkdcmlcnaa", sum := "9e26017503833eefc0f034e1dc4b604d8cd563570fccbda50c97ae3fcba3d666", func := "bolter/bolterlaw08.ZoneFits", spec := "zoneFits", apart := false, narrowed := true }
def ZoneFitsUptoSaid : Prop := zoneFitsUptoRow.holds Try.pinned (OpenSpec.upto zoneFitsSpec)

/-- 'bolterlaw08.ZoneSoa', WHERE WHAT IT READS IS OF BULK AT MOST 1048576: true; the input reads as it did. -/
def zoneSoaUptoRow : OpenClaim := { program := "ytigfopkdcmlcnaa", sum := "9e26017503833eefc0f034e1dc4b604d8cd563570fccbda50c97ae3fcba3d666", func := "bolter/bolterlaw08.ZoneSoa", spec := "zoneSoa", apart := false, narrowed := true }
def ZoneSoaUptoSaid : Prop := zoneSoaUptoRow.holds Try.pinned (OpenSpec.upto zoneSoaSpec)

/-- 'bolterlaw08.ZoneAt', WHERE WHAT IT READS IS OF BULK AT MOST 1048576: true; the input reads as it did. -/
def zoneAtUptoRow : OpenClaim := { program := "ytigfopkdcmlcnaa", sum := "9e26017503833eefc0f034e1dc4b604d8cd563570fccbda50c97ae3fcba3d666", func := "bolter/bolterlaw08.ZoneAt", spec := "zoneAt", apart := false, narrowed := true }
def ZoneAtUptoSaid : Prop := zoneAtUptoRow.holds Try.pinned (OpenSpec.upto zoneAtSpec)

/-- 'bolterlaw21.ReplyChanges', WHERE WHAT IT READS IS OF BULK AT MOST 1048576: true; the input reads as it did. -/
def replyChangesUptoRow : OpenClaim := { program := "ytigfopkdcmlcnaa", sum := "9e26017503833eefc0f034e1dc4b604d8cd563570fccbda50c97ae3fcba3d666", func := "bolter/bolterlaw21.ReplyChanges", spec := "replyChanges", apart := false, narrowed := true }
def ReplyChangesUptoSaid : Prop := replyChangesUptoRow.holds Try.pinned (OpenSpec.upto replyChangesSpec)

/-- 'bolterlaw21.ReplyBase', WHERE WHAT IT READS IS OF BULK AT MOST 1048576: true; the input reads as it did. -/
def replyBaseUptoRow : OpenClaim := { program := "ytigfopkdcmlcnaa", sum := "9e26017503833eefc0f034e1dc4b604d8cd563570fccbda50c97ae3fcba3d666", func := "bolter/bolterlaw21.ReplyBase", spec := "replyBase", apart := false, narrowed := true }
def ReplyBaseUptoSaid : Prop := replyBaseUptoRow.holds Try.pinned (OpenSpec.upto replyBaseSpec)

/-- 'bolterlaw23.DeviceOwn', WHERE WHAT IT READS IS OF BULK AT MOST 1048576: true; the input reads as it did. -/
def deviceOwnUptoRow : OpenClaim := { program := "ytigfopkdcmlcnaa", sum := "9e26017503833eefc0f034e1dc4b604d8cd563570fccbda50c97ae3fcba3d666", func := "bolter/bolterlaw23.DeviceOwn", spec := "deviceOwn", apart := false, narrowed := true }
def DeviceOwnUptoSaid : Prop := deviceOwnUptoRow.holds Try.pinned (OpenSpec.upto deviceOwnSpec)

/-- 'bolterlaw23.DeviceKeeps', WHERE WHAT IT READS IS OF BULK AT MOST 1048576: true; the input reads as it did. -/
def deviceKeepsUptoRow : OpenClaim := { program := "ytigfopkdcmlcnaa", sum := "9e26017503833eefc0f034e1dc4b604d8cd563570fccbda50c97ae3fcba3d666", func := "bolter/bolterlaw23.DeviceKeeps", spec := "deviceKeeps", apart := false, narrowed := true }
def DeviceKeepsUptoSaid : Prop := deviceKeepsUptoRow.holds Try.pinned (OpenSpec.upto deviceKeepsSpec)

/-- 'bolterlaw23.DeviceBegins', WHERE WHAT IT READS IS OF BULK AT MOST 1048576: true; the input reads as it did. -/
def deviceBeginsUptoRow : OpenClaim := { program := "ytigfopkdcmlcnaa", sum := "9e26017503833eefc0f034e1dc4b604d8cd563570fccbda50c97ae3fcba3d666", func := "bolter/bolterlaw23.DeviceBegins", spec := "deviceBegins", apart := false, narrowed := true }
def DeviceBeginsUptoSaid : Prop := deviceBeginsUptoRow.holds Try.pinned (OpenSpec.upto deviceBeginsSpec)

/-- 'bolterlaw26.PendingFree', WHERE WHAT IT READS IS OF BULK AT MOST 1048576: true; the input reads as it did. -/
def pendingFreeUptoRow : OpenClaim := { program := "ytigfopkdcmlcnaa", sum := "9e26017503833eefc0f034e1dc4b604d8cd563570fccbda50c97ae3fcba3d666", func := "bolter/bolterlaw26.PendingFree", spec := "pendingFree", apart := false, narrowed := true }
def PendingFreeUptoSaid : Prop := pendingFreeUptoRow.holds Try.pinned (OpenSpec.upto pendingFreeSpec)

/-- 'bolterlaw24.JournalNone', WHERE WHAT IT READS IS OF BULK AT MOST 1048576: true; the input reads as it did. -/
def journalNoneUptoRow : OpenClaim := { program := "ytigfopkdcmlcnaa", sum := "9e26017503833eefc0f034e1dc4b604d8cd563570fccbda50c97ae3fcba3d666", func := "bolter/bolterlaw24.JournalNone", spec := "journalNone", apart := false, narrowed := true }
def JournalNoneUptoSaid : Prop := journalNoneUptoRow.holds Try.pinned (OpenSpec.upto journalNoneSpec)

end Rows
end Go.Proofs.Ytigfopkdcmlcnaa
