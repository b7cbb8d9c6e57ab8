/-
  No cell of these rows narrows 'for every input' (looked for: loops, veiled, ifaces, maps, wideKeys, modest, calm, conditions, laid).
  DERIVED. THE GIVEN ROWS OF THIS SEAT. 11 by the template 'for every input the law returns true; each argument reads behind the call as it read before'; 0 by the template 'total and deterministic' (their statements: YtioichenjoeonaaTotals.lean).
  GIVEN WITH THE SEED: the statements are not yours to turn. If you find one false, say at which input.
  Laid BY PROGRAM, IN A SANDBOX (cutbox-rows.mjs): the forced cells as the released guide's own fill.sh prints them over the translation 3fcc1e9c2ee7bb78… (all of the seat's roots in one cut). By AI agents, Wed Nov 11 2026. No macro, syntax, notation, axiom, sorry.
-/
import Derived.Test.YtioichenjoeonaaChecked
import GoSem.Claim
import GoSem.ClaimJoined
import GoSem.ClaimMapViews
import Derived.JoinedTies
import Derived.KernelRfl
namespace Go.Proofs.Ytioichenjoeonaa
/- THE CELL 'sum', in the pinned program and in every row, IS THE sha256 OF THE DUMP (.gsa) THAT YtioichenjoeonaaProg.lean LOADS. Nothing in Lean hashes anything: it is a label: what it is worth is what the hold of that sum in a sandbox is worth. -/
noncomputable def Try.pinned : Pinned := { name := "ytioichenjoeonaa", sum := "3fcc1e9c2ee7bb785713cd421caa2b684a8e668514c73bfdee11983ae5febc95", checked := Try.checked }
namespace Rows
def none {H : Type} : Left H := { results := [], args := [] }

/-- 'bolterlaw12.PrefixCut': WHATEVER THE INPUT: true; the input reads as it did. -/
def prefixCutSpec : ChangeSpec := { name := "prefixCut", fn := fun _ => fun
  | [d1, d2, d3, d4] => { results := [.lit (.bool true)], args := [d1, d2, d3, d4] }
  | _ => none }
def prefixCutRow : OpenClaim := { program := "ytioichenjoeonaa", sum := "3fcc1e9c2ee7bb785713cd421caa2b684a8e668514c73bfdee11983ae5febc95", func := "bolter/bolterlaw12.PrefixCut", spec := "prefixCut", apart := false }
def PrefixCutSaid : Prop := prefixCutRow.holds Try.pinned (OpenSpec.ofChange prefixCutSpec)

/-- ITS FALSE NEIGHBOUR: 'it returns false'. Refute it at one input. -/
def prefixCutWrong : ChangeSpec := { name := "prefixCut", fn := fun _ => fun
  | [d1, d2, d3, d4] => { results := [.lit (.bool false)], args := [d1, d2, d3, d4] }
  | _ => none }
def PrefixCutWrongFalsely : Prop := prefixCutRow.holds Try.pinned (OpenSpec.ofChange prefixCutWrong)

/-- 'bolterlaw12.PrefixHas': WHATEVER THE INPUT: true; the input reads as it did. -/
def prefixHasSpec : ChangeSpec := { name := "prefixHas", fn := fun _ => fun
  | [d1, d2, d3, d4, d5] => { results := [.lit (.bool true)], args := [d1, d2, d3, d4, d5] }
  | _ => none }
def prefixHasRow : OpenClaim := { program := "ytioichenjoeonaa", sum := "3fcc1e9c2ee7bb785713cd421caa2b684a8e668514c73bfdee11983ae5febc95", func := "bolter/bolterlaw12.PrefixHas", spec := "prefixHas", apart := false }
def PrefixHasSaid : Prop := prefixHasRow.holds Try.pinned (OpenSpec.ofChange prefixHasSpec)

/-- ITS FALSE NEIGHBOUR: 'it returns false'. Refute it at one input. -/
def prefixHasWrong : ChangeSpec := { name := "prefixHas", fn := fun _ => fun
  | [d1, d2, d3, d4, d5] => { results := [.lit (.bool false)], args := [d1, d2, d3, d4, d5] }
  | _ => none }
def PrefixHasWrongFalsely : Prop := prefixHasRow.holds Try.pinned (OpenSpec.ofChange prefixHasWrong)

/-- 'bolterlaw12.PrefixMay': WHATEVER THE INPUT: true; the input reads as it did. -/
def prefixMaySpec : ChangeSpec := { name := "prefixMay", fn := fun _ => fun
  | [d1, d2] => { results := [.lit (.bool true)], args := [d1, d2] }
  | _ => none }
def prefixMayRow : OpenClaim := { program := "ytioichenjoeonaa", sum := "3fcc1e9c2ee7bb785713cd421caa2b684a8e668514c73bfdee11983ae5febc95", func := "bolter/bolterlaw12.PrefixMay", spec := "prefixMay", apart := false }
def PrefixMaySaid : Prop := prefixMayRow.holds Try.pinned (OpenSpec.ofChange prefixMaySpec)

/-- ITS FALSE NEIGHBOUR: 'it returns false'. Refute it at one input. -/
def prefixMayWrong : ChangeSpec := { name := "prefixMay", fn := fun _ => fun
  | [d1, d2] => { results := [.lit (.bool false)], args := [d1, d2] }
  | _ => none }
def PrefixMayWrongFalsely : Prop := prefixMayRow.holds Try.pinned (OpenSpec.ofChange prefixMayWrong)

/-- 'bolterlaw12.PrefixKey': WHATEVER THE INPUT: true; the input reads as it did. -/
def prefixKeySpec : ChangeSpec := { name := "prefixKey", fn := fun _ => fun
  | [d1, d2, d3] => { results := [.lit (.bool true)], args := [d1, d2, d3] }
  | _ => none }
def prefixKeyRow : OpenClaim := { program := "ytioichenjoeonaa", sum := "3fcc1e9c2ee7bb785713cd421caa2b684a8e668514c73bfdee11983ae5febc95", func := "bolter/bolterlaw12.PrefixKey", spec := "prefixKey", apart := false }
def PrefixKeySaid : Prop := prefixKeyRow.holds Try.pinned (OpenSpec.ofChange prefixKeySpec)

/-- ITS FALSE NEIGHBOUR: 'it returns false'. Refute it at one input. -/
def prefixKeyWrong : ChangeSpec := { name := "prefixKey", fn := fun _ => fun
  | [d1, d2, d3] => { results := [.lit (.bool false)], args := [d1, d2, d3] }
  | _ => none }
def PrefixKeyWrongFalsely : Prop := prefixKeyRow.holds Try.pinned (OpenSpec.ofChange prefixKeyWrong)

/-- 'bolterlaw12.PrefixBack': WHATEVER THE INPUT: true; the input reads as it did. -/
def prefixBackSpec : ChangeSpec := { name := "prefixBack", fn := fun _ => fun
  | [d1, d2] => { results := [.lit (.bool true)], args := [d1, d2] }
  | _ => none }
def prefixBackRow : OpenClaim := { program := "ytioichenjoeonaa", sum := "3fcc1e9c2ee7bb785713cd421caa2b684a8e668514c73bfdee11983ae5febc95", func := "bolter/bolterlaw12.PrefixBack", spec := "prefixBack", apart := false }
def PrefixBackSaid : Prop := prefixBackRow.holds Try.pinned (OpenSpec.ofChange prefixBackSpec)

/-- ITS FALSE NEIGHBOUR: 'it returns false'. Refute it at one input. -/
def prefixBackWrong : ChangeSpec := { name := "prefixBack", fn := fun _ => fun
  | [d1, d2] => { results := [.lit (.bool false)], args := [d1, d2] }
  | _ => none }
def PrefixBackWrongFalsely : Prop := prefixBackRow.holds Try.pinned (OpenSpec.ofChange prefixBackWrong)

/-- 'bolterlaw12.PrefixCommon': WHATEVER THE INPUT: true; the input reads as it did. -/
def prefixCommonSpec : ChangeSpec := { name := "prefixCommon", fn := fun _ => fun
  | [d1, d2, d3, d4] => { results := [.lit (.bool true)], args := [d1, d2, d3, d4] }
  | _ => none }
def prefixCommonRow : OpenClaim := { program := "ytioichenjoeonaa", sum := "3fcc1e9c2ee7bb785713cd421caa2b684a8e668514c73bfdee11983ae5febc95", func := "bolter/bolterlaw12.PrefixCommon", spec := "prefixCommon", apart := false }
def PrefixCommonSaid : Prop := prefixCommonRow.holds Try.pinned (OpenSpec.ofChange prefixCommonSpec)

/-- ITS FALSE NEIGHBOUR: 'it returns false'. Refute it at one input. -/
def prefixCommonWrong : ChangeSpec := { name := "prefixCommon", fn := fun _ => fun
  | [d1, d2, d3, d4] => { results := [.lit (.bool false)], args := [d1, d2, d3, d4] }
  | _ => none }
def PrefixCommonWrongFalsely : Prop := prefixCommonRow.holds Try.pinned (OpenSpec.ofChange prefixCommonWrong)

/-- 'bolterlaw18.RankOf': WHATEVER THE INPUT: true; the input reads as it did. -/
def rankOfSpec : ChangeSpec := { name := "rankOf", fn := fun _ => fun
  | [d1, d2, d3, d4, d5] => { results := [.lit (.bool true)], args := [d1, d2, d3, d4, d5] }
  | _ => none }
def rankOfRow : OpenClaim := { program := "ytioichenjoeonaa", sum := "3fcc1e9c2ee7bb785713cd421caa2b684a8e668514c73bfdee11983ae5febc95", func := "bolter/bolterlaw18.RankOf", spec := "rankOf", apart := false }
def RankOfSaid : Prop := rankOfRow.holds Try.pinned (OpenSpec.ofChange rankOfSpec)

/-- ITS FALSE NEIGHBOUR: 'it returns false'. Refute it at one input. -/
def rankOfWrong : ChangeSpec := { name := "rankOf", fn := fun _ => fun
  | [d1, d2, d3, d4, d5] => { results := [.lit (.bool false)], args := [d1, d2, d3, d4, d5] }
  | _ => none }
def RankOfWrongFalsely : Prop := rankOfRow.holds Try.pinned (OpenSpec.ofChange rankOfWrong)

/-- 'bolterlaw18.RankBetter': WHATEVER THE INPUT: true; the input reads as it did. -/
def rankBetterSpec : ChangeSpec := { name := "rankBetter", fn := fun _ => fun
  | [d1, d2, d3, d4] => { results := [.lit (.bool true)], args := [d1, d2, d3, d4] }
  | _ => none }
def rankBetterRow : OpenClaim := { program := "ytioichenjoeonaa", sum := "3fcc1e9c2ee7bb785713cd421caa2b684a8e668514c73bfdee11983ae5febc95", func := "bolter/bolterlaw18.RankBetter", spec := "rankBetter", apart := false }
def RankBetterSaid : Prop := rankBetterRow.holds Try.pinned (OpenSpec.ofChange rankBetterSpec)

/-- ITS FALSE NEIGHBOUR: 'it returns false'. Refute it at one input. -/
def rankBetterWrong : ChangeSpec := { name := "rankBetter", fn := fun _ => fun
  | [d1, d2, d3, d4] => { results := [.lit (.bool false)], args := [d1, d2, d3, d4] }
  | _ => none }
def RankBetterWrongFalsely : Prop := rankBetterRow.holds Try.pinned (OpenSpec.ofChange rankBetterWrong)

/-- 'bolterlaw18.RankFirst': WHATEVER THE INPUT: true; the input reads as it did. -/
def rankFirstSpec : ChangeSpec := { name := "rankFirst", fn := fun _ => fun
  | [d] => { results := [.lit (.bool true)], args := [d] }
  | _ => none }
def rankFirstRow : OpenClaim := { program := "ytioichenjoeonaa", sum := "3fcc1e9c2ee7bb785713cd421caa2b684a8e668514c73bfdee11983ae5febc95", func := "bolter/bolterlaw18.RankFirst", spec := "rankFirst", apart := false }
def RankFirstSaid : Prop := rankFirstRow.holds Try.pinned (OpenSpec.ofChange rankFirstSpec)

/-- ITS FALSE NEIGHBOUR: 'it returns false'. Refute it at one input. -/
def rankFirstWrong : ChangeSpec := { name := "rankFirst", fn := fun _ => fun
  | [d] => { results := [.lit (.bool false)], args := [d] }
  | _ => none }
def RankFirstWrongFalsely : Prop := rankFirstRow.holds Try.pinned (OpenSpec.ofChange rankFirstWrong)

/-- 'bolterlaw18.RankOther': WHATEVER THE INPUT: true; the input reads as it did. -/
def rankOtherSpec : ChangeSpec := { name := "rankOther", fn := fun _ => fun
  | [d1, d2, d3] => { results := [.lit (.bool true)], args := [d1, d2, d3] }
  | _ => none }
def rankOtherRow : OpenClaim := { program := "ytioichenjoeonaa", sum := "3fcc1e9c2ee7bb785713cd421caa2b684a8e668514c73bfdee11983ae5febc95", func := "bolter/bolterlaw18.RankOther", spec := "rankOther", apart := false }
def RankOtherSaid : Prop := rankOtherRow.holds Try.pinned (OpenSpec.ofChange rankOtherSpec)

/-- ITS FALSE NEIGHBOUR: 'it returns false'. Refute it at one input. -/
def rankOtherWrong : ChangeSpec := { name := "rankOther", fn := fun _ => fun
  | [d1, d2, d3] => { results := [.lit (.bool false)], args := [d1, d2, d3] }
  | _ => none }
def RankOtherWrongFalsely : Prop := rankOtherRow.holds Try.pinned (OpenSpec.ofChange rankOtherWrong)

/-- 'bolterlaw22.FrameMake': WHATEVER THE INPUT: true; the input reads as it did. -/
def frameMakeSpec : ChangeSpec := { name := "frameMake", fn := fun _ => fun
  | [d1, d2] => { results := [.lit (.bool true)], args := [d1, d2] }
  | _ => none }
def frameMakeRow : OpenClaim := { program := "ytioichenjoeonaa", sum := "3fcc1e9c2ee7bb785713cd421caa2b684a8e668514c73bfdee11983ae5febc95", func := "bolter/bolterlaw22.FrameMake", spec := "frameMake", apart := false }
def FrameMakeSaid : Prop := frameMakeRow.holds Try.pinned (OpenSpec.ofChange frameMakeSpec)

/-- ITS FALSE NEIGHBOUR: 'it returns false'. Refute it at one input. -/
def frameMakeWrong : ChangeSpec := { name := "frameMake", fn := fun _ => fun
  | [d1, d2] => { results := [.lit (.bool false)], args := [d1, d2] }
  | _ => none }
def FrameMakeWrongFalsely : Prop := frameMakeRow.holds Try.pinned (OpenSpec.ofChange frameMakeWrong)

/- THE SECOND FORM. 'bulk': how many values and letters a reading holds, each counted each time it is reached (what is shared counts as often as it is met; a slice's spare places count too). A statement '..UptoSaid' is the law's where the arguments, and the package variables that the reading takes, are together of bulk at most 1048576: NARROWER than '..Said'. Prove '..Said' where nothing that the law and all that it calls make is longer than what came in: it says more and counts as full. Else prove '..UptoSaid'. A law counts once. -/
mutual
def uptoBulk {H : Type} : DataW H → Nat
  | .lit (.string bytes) => bytes.length + 1
  | .lit _ => 1
  | .nil => 1
  | .ptr d => uptoBulk d + 1
  | .slice elems spare => uptoBulkAll elems + uptoBulkAll spare + 1
  | .agg parts => uptoBulkAll parts + 1
  | .iface _ d => uptoBulk d + 1
  | .map entries => uptoBulkEntries entries + 1
  | .held _ => 1
def uptoBulkAll {H : Type} : List (DataW H) → Nat
  | [] => 0
  | d :: r => uptoBulk d + uptoBulkAll r
def uptoBulkEntries {H : Type} : List (Lit × DataW H) → Nat
  | [] => 0
  | x :: r => uptoBulkEntry x + uptoBulkEntries r
def uptoBulkEntry {H : Type} : Lit × DataW H → Nat
  | (.string bytes, d) => bytes.length + uptoBulk d + 1
  | (_, d) => uptoBulk d + 1
 end
def uptoSmall : (H : Type) → List (DataW H) → Bool := fun _ ds => decide (uptoBulkAll ds ≤ 1048576)
def OpenSpec.upto (s : _root_.Go.ChangeSpec) : _root_.Go.OpenSpec := { _root_.Go.OpenSpec.ofChange s with cond := some uptoSmall }

/-- 'bolterlaw12.PrefixCut', WHERE WHAT IT READS IS OF BULK AT MOST 1048576: true; the input reads as it did. -/
def prefixCutUptoRow : OpenClaim := { program := "ytioichenjoeonaa", sum := "3fcc1e9c2ee7bb785713cd421caa2b684a8e668514c73bfdee11983ae5febc95", func := "bolter/bolterlaw12.PrefixCut", spec := "prefixCut", apart := false, narrowed := true }
def PrefixCutUptoSaid : Prop := prefixCutUptoRow.holds Try.pinned (OpenSpec.upto prefixCutSpec)

/-- 'bolterlaw12.PrefixHas', WHERE WHAT IT READS IS OF BULK AT MOST 1048576: true; the input reads as it did. -/
def prefixHasUptoRow : OpenClaim := { program := "ytioichenjoeonaa", sum := "3fcc1e9c2ee7bb785713cd421caa2b684a8e668514c73bfdee11983ae5febc95", func := "bolter/bolterlaw12.PrefixHas", spec := "prefixHas", apart := false, narrowed := true }
def PrefixHasUptoSaid : Prop := prefixHasUptoRow.holds Try.pinned (OpenSpec.upto prefixHasSpec)

/-- 'bolterlaw12.PrefixMay', WHERE WHAT IT READS IS OF BULK AT MOST 1048576: true; the input reads as it did. -/
def prefixMayUptoRow : OpenClaim := { program := "ytioichenjoeonaa", sum := "3fcc1e9c2ee7bb785713cd421caa2b684a8e668514c73bfdee11983ae5febc95", func := "bolter/bolterlaw12.PrefixMay", spec := "prefixMay", apart := false, narrowed := true }
def PrefixMayUptoSaid : Prop := prefixMayUptoRow.holds Try.pinned (OpenSpec.upto prefixMaySpec)

/-- 'bolterlaw12.PrefixKey', WHERE WHAT IT READS IS OF BULK AT MOST 1048576: true; the input reads as it did. -/
def prefixKeyUptoRow : OpenClaim := { program := "ytioichenjoeonaa", sum := "3fcc1e9c2ee7bb785713cd421caa2b684a8e668514c73bfdee11983ae5febc95", func := "bolter/bolterlaw12.PrefixKey", spec := "prefixKey", apart := false, narrowed := true }
def PrefixKeyUptoSaid : Prop := prefixKeyUptoRow.holds Try.pinned (OpenSpec.upto prefixKeySpec)

/-- 'bolterlaw12.PrefixBack', WHERE WHAT IT READS IS OF BULK AT MOST 1048576: true; the input reads as it did. -/
def prefixBackUptoRow : OpenClaim := { program := "ytioichenjoeonaa", sum := "3fcc1e9c2ee7bb785713cd421caa2b684a8e668514c73bfdee11983ae5febc95", func := "bolter/bolterlaw12.PrefixBack", spec := "prefixBack", apart := false, narrowed := true }
def PrefixBackUptoSaid : Prop := prefixBackUptoRow.holds Try.pinned (OpenSpec.upto prefixBackSpec)

/-- 'bolterlaw12.PrefixCommon', WHERE WHAT IT READS IS OF BULK AT MOST 1048576: true; the input reads as it did. -/
def prefixCommonUptoRow : OpenClaim := { program := "ytioichenjoeonaa", sum := "3fcc1e9c2ee7bb785713cd421caa2b684a8e668514c73bfdee11983ae5febc95", func := "bolter/bolterlaw12.PrefixCommon", spec := "prefixCommon", apart := false, narrowed := true }
def PrefixCommonUptoSaid : Prop := prefixCommonUptoRow.holds Try.pinned (OpenSpec.upto prefixCommonSpec)

/-- 'bolterlaw18.RankOf', WHERE WHAT IT READS IS OF BULK AT MOST 1048576: true; the input reads as it did. -/
def rankOfUptoRow : OpenClaim := { program := "ytioichenjoeonaa", sum := "3fcc1e9c2ee7bb785713cd421caa2b684a8e668514c73bfdee11983ae5febc95", func := "bolter/bolterlaw18.RankOf", spec := "rankOf", apart := false, narrowed := true }
def RankOfUptoSaid : Prop := rankOfUptoRow.holds Try.pinned (OpenSpec.upto rankOfSpec)

/-- 'bolterlaw18.RankBetter', WHERE WHAT IT READS IS OF BULK AT MOST 1048576: true; the input reads as it did. -/
def rankBetterUptoRow : OpenClaim := { program := "ytioichenjoeonaa", sum := "3fcc1e9c2ee7bb785713cd421caa2b684a8e668514c73bfdee11983ae5febc95", func := "bolter/bolterlaw18.RankBetter", spec := "rankBetter", apart := false, narrowed := true }
def RankBetterUptoSaid : Prop := rankBetterUptoRow.holds Try.pinned (OpenSpec.upto rankBetterSpec)

/-- 'bolterlaw18.RankFirst', WHERE WHAT IT READS IS OF BULK AT MOST 1048576: true; the input reads as it did. -/
def rankFirstUptoRow : OpenClaim := { program := "ytioichenjoeonaa", sum := "3fcc1e9c2ee7bb785713cd421caa2b684a8e668514c73bfdee11983ae5febc95", func := "bolter/bolterlaw18.RankFirst", spec := "rankFirst", apart := false, narrowed := true }
def RankFirstUptoSaid : Prop := rankFirstUptoRow.holds Try.pinned (OpenSpec.upto rankFirstSpec)

/-- 'bolterlaw18.RankOther', WHERE WHAT IT READS IS OF BULK AT MOST 1048576: true; the input reads as it did. -/
def rankOtherUptoRow : OpenClaim := { program := "ytioichenjoeonaa", sum := "3fcc1e9c2ee7bb785713cd421caa2b684a8e668514c73bfdee11983ae5febc95", func := "bolter/bolterlaw18.RankOther", spec := "rankOther", apart := false, narrowed := true }
def RankOtherUptoSaid : Prop := rankOtherUptoRow.holds Try.pinned (OpenSpec.upto rankOtherSpec)

/-- 'bolterlaw22.FrameMake', WHERE WHAT IT READS IS OF BULK AT MOST 1048576: true; the input reads as it did. -/
def frameMakeUptoRow : OpenClaim := { program := "ytioichenjoeonaa", sum := "3fcc1e9c2ee7bb785713cd421caa2b684a8e668514c73bfdee11983ae5febc95", func := "bolter/bolterlaw22.FrameMake", spec := "frameMake", apart := false, narrowed := true }
def FrameMakeUptoSaid : Prop := frameMakeUptoRow.holds Try.pinned (OpenSpec.upto frameMakeSpec)

end Rows
end Go.Proofs.Ytioichenjoeonaa
