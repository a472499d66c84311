/-
  No cell of these rows narrows 'for every input' (looked for: loops, veiled, ifaces, maps, wideKeys, modest, calm, conditions, laid).
  DERIVED. THE GIVEN ROWS OF THIS SEAT. 5 by the template 'for every input the law returns true; each argument reads behind the call as it read before'; 0 by the template 'total and deterministic' (their statements: YtncbajehmdnibaaTotals.lean).
  GIVEN WITH THE SEED: the statements are not yours to turn. If you find one false, say at which input.
  Laid BY PROGRAM, IN A SANDBOX (cutbox-rows.mjs): the forced cells as the released guide's own fill.sh prints them over the translation c237814a86c9635a… (all of the seat's roots in one cut). By AI agents, Wed Nov 11 2026. No macro, syntax, notation, axiom, sorry.
-/
import Derived.Test.YtncbajehmdnibaaChecked
import GoSem.Claim
import GoSem.ClaimJoined
import GoSem.ClaimMapViews
import Derived.JoinedTies
import Derived.KernelRfl
namespace Go.Proofs.Ytncbajehmdnibaa
/- THE CELL 'sum', in the pinned program and in every row, IS THE sha256 OF THE DUMP (.gsa) THAT YtncbajehmdnibaaProg.lean LOADS. Nothing in Lean hashes anything: it is a label: what it is worth is what the hold of that sum in a sandbox is worth. -/
noncomputable def Try.pinned : Pinned := { name := "ytncbajehmdnibaa", sum := "c237814a86c9635ad3646537dc2a937cf0c0857fd6553a17fb6a1e2dca1a46ab", checked := Try.checked }
namespace Rows
def none {H : Type} : Left H := { results := [], args := [] }

/-- 'gimballaw09.HuberBounds': WHATEVER THE INPUT: true; the input reads as it did. -/
def huberBoundsSpec : ChangeSpec := { name := "huberBounds", fn := fun _ => fun
  | [d1, d2, d3] => { results := [.lit (.bool true)], args := [d1, d2, d3] }
  | _ => none }
def huberBoundsRow : OpenClaim := { program := "ytncbajehmdnibaa", sum := "c237814a86c9635ad3646537dc2a937cf0c0857fd6553a17fb6a1e2dca1a46ab", func := "gimbal/gimballaw09.HuberBounds", spec := "huberBounds", unfollowed := true, recurses := true, apart := false }
def HuberBoundsSaid : Prop := huberBoundsRow.holds Try.pinned (OpenSpec.ofChange huberBoundsSpec)

/-- ITS FALSE NEIGHBOUR: 'it returns false'. Refute it at one input. -/
def huberBoundsWrong : ChangeSpec := { name := "huberBounds", fn := fun _ => fun
  | [d1, d2, d3] => { results := [.lit (.bool false)], args := [d1, d2, d3] }
  | _ => none }
def HuberBoundsWrongFalsely : Prop := huberBoundsRow.holds Try.pinned (OpenSpec.ofChange huberBoundsWrong)

/-- 'gimballaw09.HuberAbove': WHATEVER THE INPUT: true; the input reads as it did. -/
def huberAboveSpec : ChangeSpec := { name := "huberAbove", fn := fun _ => fun
  | [d1, d2, d3] => { results := [.lit (.bool true)], args := [d1, d2, d3] }
  | _ => none }
def huberAboveRow : OpenClaim := { program := "ytncbajehmdnibaa", sum := "c237814a86c9635ad3646537dc2a937cf0c0857fd6553a17fb6a1e2dca1a46ab", func := "gimbal/gimballaw09.HuberAbove", spec := "huberAbove", unfollowed := true, recurses := true, apart := false }
def HuberAboveSaid : Prop := huberAboveRow.holds Try.pinned (OpenSpec.ofChange huberAboveSpec)

/-- ITS FALSE NEIGHBOUR: 'it returns false'. Refute it at one input. -/
def huberAboveWrong : ChangeSpec := { name := "huberAbove", fn := fun _ => fun
  | [d1, d2, d3] => { results := [.lit (.bool false)], args := [d1, d2, d3] }
  | _ => none }
def HuberAboveWrongFalsely : Prop := huberAboveRow.holds Try.pinned (OpenSpec.ofChange huberAboveWrong)

/-- 'gimballaw09.HuberGrows': WHATEVER THE INPUT: true; the input reads as it did. -/
def huberGrowsSpec : ChangeSpec := { name := "huberGrows", fn := fun _ => fun
  | [d1, d2, d3, d4] => { results := [.lit (.bool true)], args := [d1, d2, d3, d4] }
  | _ => none }
def huberGrowsRow : OpenClaim := { program := "ytncbajehmdnibaa", sum := "c237814a86c9635ad3646537dc2a937cf0c0857fd6553a17fb6a1e2dca1a46ab", func := "gimbal/gimballaw09.HuberGrows", spec := "huberGrows", unfollowed := true, recurses := true, apart := false }
def HuberGrowsSaid : Prop := huberGrowsRow.holds Try.pinned (OpenSpec.ofChange huberGrowsSpec)

/-- ITS FALSE NEIGHBOUR: 'it returns false'. Refute it at one input. -/
def huberGrowsWrong : ChangeSpec := { name := "huberGrows", fn := fun _ => fun
  | [d1, d2, d3, d4] => { results := [.lit (.bool false)], args := [d1, d2, d3, d4] }
  | _ => none }
def HuberGrowsWrongFalsely : Prop := huberGrowsRow.holds Try.pinned (OpenSpec.ofChange huberGrowsWrong)

/-- 'gimballaw09.HuberBends': WHATEVER THE INPUT: true; the input reads as it did. -/
def huberBendsSpec : ChangeSpec := { name := "huberBends", fn := fun _ => fun
  | [d1, d2, d3] => { results := [.lit (.bool true)], args := [d1, d2, d3] }
  | _ => none }
def huberBendsRow : OpenClaim := { program := "ytncbajehmdnibaa", sum := "c237814a86c9635ad3646537dc2a937cf0c0857fd6553a17fb6a1e2dca1a46ab", func := "gimbal/gimballaw09.HuberBends", spec := "huberBends", unfollowed := true, recurses := true, apart := false }
def HuberBendsSaid : Prop := huberBendsRow.holds Try.pinned (OpenSpec.ofChange huberBendsSpec)

/-- ITS FALSE NEIGHBOUR: 'it returns false'. Refute it at one input. -/
def huberBendsWrong : ChangeSpec := { name := "huberBends", fn := fun _ => fun
  | [d1, d2, d3] => { results := [.lit (.bool false)], args := [d1, d2, d3] }
  | _ => none }
def HuberBendsWrongFalsely : Prop := huberBendsRow.holds Try.pinned (OpenSpec.ofChange huberBendsWrong)

/-- 'gimballaw09.HuberScale': WHATEVER THE INPUT: true; the input reads as it did. -/
def huberScaleSpec : ChangeSpec := { name := "huberScale", fn := fun _ => fun
  | [d1, d2, d3] => { results := [.lit (.bool true)], args := [d1, d2, d3] }
  | _ => none }
def huberScaleRow : OpenClaim := { program := "ytncbajehmdnibaa", sum := "c237814a86c9635ad3646537dc2a937cf0c0857fd6553a17fb6a1e2dca1a46ab", func := "gimbal/gimballaw09.HuberScale", spec := "huberScale", unfollowed := true, recurses := true, apart := false }
def HuberScaleSaid : Prop := huberScaleRow.holds Try.pinned (OpenSpec.ofChange huberScaleSpec)

/-- ITS FALSE NEIGHBOUR: 'it returns false'. Refute it at one input. -/
def huberScaleWrong : ChangeSpec := { name := "huberScale", fn := fun _ => fun
  | [d1, d2, d3] => { results := [.lit (.bool false)], args := [d1, d2, d3] }
  | _ => none }
def HuberScaleWrongFalsely : Prop := huberScaleRow.holds Try.pinned (OpenSpec.ofChange huberScaleWrong)

/- THE SECOND FORM. 'bulk': how many values and letters a reading holds, each counted each time it is reached (what is shared counts as often as it is met; a slice's spare places count too). A statement '..UptoSaid' is the law's where the arguments, and the package variables that the reading takes, are together of bulk at most 1048576: NARROWER than '..Said'. Prove '..Said' where nothing that the law and all that it calls make is longer than what came in: it says more and counts as full. Else prove '..UptoSaid'. A law counts once. -/
mutual
def uptoBulk {H : Type} : DataW H → Nat
  | .lit (.string bytes) => bytes.length + 1
  | .lit _ => 1
  | .nil => 1
  | .ptr d => uptoBulk d + 1
  | .slice elems spare => uptoBulkAll elems + uptoBulkAll spare + 1
  | .agg parts => uptoBulkAll parts + 1
  | .iface _ d => uptoBulk d + 1
  | .map entries => uptoBulkEntries entries + 1
  | .held _ => 1
def uptoBulkAll {H : Type} : List (DataW H) → Nat
  | [] => 0
  | d :: r => uptoBulk d + uptoBulkAll r
def uptoBulkEntries {H : Type} : List (Lit × DataW H) → Nat
  | [] => 0
  | x :: r => uptoBulkEntry x + uptoBulkEntries r
def uptoBulkEntry {H : Type} : Lit × DataW H → Nat
  | (.string bytes, d) => bytes.length + uptoBulk d + 1
  | (_, d) => uptoBulk d + 1
 end
def uptoSmall : (H : Type) → List (DataW H) → Bool := fun _ ds => decide (uptoBulkAll ds ≤ 1048576)
def OpenSpec.upto (s : _root_.Go.ChangeSpec) : _root_.Go.OpenSpec := { _root_.Go.OpenSpec.ofChange s with cond := some uptoSmall }

/-- 'gimballaw09.HuberBounds', WHERE WHAT IT READS IS OF BULK AT MOST 1048576: true; the input reads as it did. -/
def huberBoundsUptoRow : OpenClaim := { program := "ytncbajehmdnibaa", sum := "c237814a86c9635ad3646537dc2a937cf0c0857fd6553a17fb6a1e2dca1a46ab", func := "gimbal/gimballaw09.HuberBounds", spec := "huberBounds", unfollowed := true, recurses := true, apart := false, narrowed := true }
def HuberBoundsUptoSaid : Prop := huberBoundsUptoRow.holds Try.pinned (OpenSpec.upto huberBoundsSpec)

/-- 'gimballaw09.HuberAbove', WHERE WHAT IT READS IS OF BULK AT MOST 1048576: true; the input reads as it did. -/
def huberAboveUptoRow : OpenClaim := { program := "ytncbajehmdnibaa", sum := "c237814a86c9635ad3646537dc2a937cf0c0857fd6553a17fb6a1e2dca1a46ab", func := "gimbal/gimballaw09.HuberAbove", spec := "huberAbove", unfollowed := true, recurses := true, apart := false, narrowed := true }
def HuberAboveUptoSaid : Prop := huberAboveUptoRow.holds Try.pinned (OpenSpec.upto huberAboveSpec)

/-- 'gimballaw09.HuberGrows', WHERE WHAT IT READS IS OF BULK AT MOST 1048576: true; the input reads as it did. -/
def huberGrowsUptoRow : OpenClaim := { program := "ytncbajehmdnibaa", sum := "c237814a86c9635ad3646537dc2a937cf0c0857fd6553a17fb6a1e2dca1a46ab", func := "gimbal/gimballaw09.HuberGrows", spec := "huberGrows", unfollowed := true, recurses := true, apart := false, narrowed := true }
def HuberGrowsUptoSaid : Prop := huberGrowsUptoRow.holds Try.pinned (OpenSpec.upto huberGrowsSpec)

/-- 'gimballaw09.HuberBends', WHERE WHAT IT READS IS OF BULK AT MOST 1048576: true; the input reads as it did. -/
def huberBendsUptoRow : OpenClaim := { program := "ytncbajehmdnibaa", sum := "c237814a86c9635ad3646537dc2a937cf0c0857fd6553a17fb6a1e2dca1a46ab", func := "gimbal/gimballaw09.HuberBends", spec := "huberBends", unfollowed := true, recurses := true, apart := false, narrowed := true }
def HuberBendsUptoSaid : Prop := huberBendsUptoRow.holds Try.pinned (OpenSpec.upto huberBendsSpec)

/-- 'gimballaw09.HuberScale', WHERE WHAT IT READS IS OF BULK AT MOST 1048576: true; the input reads as it did. -/
def huberScaleUptoRow : OpenClaim := { program := "ytncbajehmdnibaa", sum := "c237814a86c9635ad3646537dc2a937cf0c0857fd6553a17fb6a1e2dca1a46ab", func := "gimbal/gimballaw09.HuberScale", spec := "huberScale", unfollowed := true, recurses := true, apart := false, narrowed := true }
def HuberScaleUptoSaid : Prop := huberScaleUptoRow.holds Try.pinned (OpenSpec.upto huberScaleSpec)

end Rows
end Go.Proofs.Ytncbajehmdnibaa
