/-
  No cell of these rows narrows 'for every input' (looked for: loops, veiled, ifaces, maps, wideKeys, modest, calm, conditions, laid).
  DERIVED. THE GIVEN ROWS OF THIS SEAT. 9 by the template 'for every input the law returns true; each argument reads behind the call as it read before'; 0 by the template 'total and deterministic' (their statements: YtohdfialnaegcaaTotals.lean).
  GIVEN WITH THE SEED: the statements are not yours to turn. If you find one false, say at which input.
  Laid BY PROGRAM, IN A SANDBOX (cutbox-rows.mjs): the forced cells as the released guide's own fill.sh prints them over the translation de070db9e7e9a5be… (all of the seat's roots in one cut). By AI agents, Wed Nov 11 2026. No macro, syntax, notation, axiom, sorry.
-/
import Derived.Test.YtohdfialnaegcaaChecked
import GoSem.Claim
import GoSem.ClaimJoined
import GoSem.ClaimMapViews
import Derived.JoinedTies
import Derived.KernelRfl
namespace Go.Proofs.Ytohdfialnaegcaa
/- THE CELL 'sum', in the pinned program and in every row, IS THE sha256 OF THE DUMP (.gsa) THAT YtohdfialnaegcaaProg.lean LOADS. Nothing in Lean hashes anything: it is a label: what it is worth is what the hold of that sum in a sandbox is worth. -/
noncomputable def Try.pinned : Pinned := { name := "ytohdfialnaegcaa", sum := "de070db9e7e9a5be5274bc38e4668a8c29d8a0ace323164c02a3f008ca49cd9d", checked := Try.checked }
namespace Rows
def none {H : Type} : Left H := { results := [], args := [] }

/-- 'gimballaw03.SpanReckons': WHATEVER THE INPUT: true; the input reads as it did. -/
def spanReckonsSpec : ChangeSpec := { name := "spanReckons", fn := fun _ => fun
  | [d1, d2] => { results := [.lit (.bool true)], args := [d1, d2] }
  | _ => none }
def spanReckonsRow : OpenClaim := { program := "ytohdfialnaegcaa", sum := "de070db9e7e9a5be5274bc38e4668a8c29d8a0ace323164c02a3f008ca49cd9d", func := "gimbal/gimballaw03.SpanReckons", spec := "spanReckons", unfollowed := true, recurses := true, apart := false }
def SpanReckonsSaid : Prop := spanReckonsRow.holds Try.pinned (OpenSpec.ofChange spanReckonsSpec)

/-- ITS FALSE NEIGHBOUR: 'it returns false'. Refute it at one input. -/
def spanReckonsWrong : ChangeSpec := { name := "spanReckons", fn := fun _ => fun
  | [d1, d2] => { results := [.lit (.bool false)], args := [d1, d2] }
  | _ => none }
def SpanReckonsWrongFalsely : Prop := spanReckonsRow.holds Try.pinned (OpenSpec.ofChange spanReckonsWrong)

/-- 'gimballaw03.SpanRoots': WHATEVER THE INPUT: true; the input reads as it did. -/
def spanRootsSpec : ChangeSpec := { name := "spanRoots", fn := fun _ => fun
  | [d] => { results := [.lit (.bool true)], args := [d] }
  | _ => none }
def spanRootsRow : OpenClaim := { program := "ytohdfialnaegcaa", sum := "de070db9e7e9a5be5274bc38e4668a8c29d8a0ace323164c02a3f008ca49cd9d", func := "gimbal/gimballaw03.SpanRoots", spec := "spanRoots", unfollowed := true, recurses := true, apart := false }
def SpanRootsSaid : Prop := spanRootsRow.holds Try.pinned (OpenSpec.ofChange spanRootsSpec)

/-- ITS FALSE NEIGHBOUR: 'it returns false'. Refute it at one input. -/
def spanRootsWrong : ChangeSpec := { name := "spanRoots", fn := fun _ => fun
  | [d] => { results := [.lit (.bool false)], args := [d] }
  | _ => none }
def SpanRootsWrongFalsely : Prop := spanRootsRow.holds Try.pinned (OpenSpec.ofChange spanRootsWrong)

/-- 'gimballaw04.KernPlays': WHATEVER THE INPUT: true; the input reads as it did. -/
def kernPlaysSpec : ChangeSpec := { name := "kernPlays", fn := fun _ => fun
  | [d] => { results := [.lit (.bool true)], args := [d] }
  | _ => none }
def kernPlaysRow : OpenClaim := { program := "ytohdfialnaegcaa", sum := "de070db9e7e9a5be5274bc38e4668a8c29d8a0ace323164c02a3f008ca49cd9d", func := "gimbal/gimballaw04.KernPlays", spec := "kernPlays", unfollowed := true, recurses := true, apart := false }
def KernPlaysSaid : Prop := kernPlaysRow.holds Try.pinned (OpenSpec.ofChange kernPlaysSpec)

/-- ITS FALSE NEIGHBOUR: 'it returns false'. Refute it at one input. -/
def kernPlaysWrong : ChangeSpec := { name := "kernPlays", fn := fun _ => fun
  | [d] => { results := [.lit (.bool false)], args := [d] }
  | _ => none }
def KernPlaysWrongFalsely : Prop := kernPlaysRow.holds Try.pinned (OpenSpec.ofChange kernPlaysWrong)

/-- 'gimballaw04.KernAngles': WHATEVER THE INPUT: true; the input reads as it did. -/
def kernAnglesSpec : ChangeSpec := { name := "kernAngles", fn := fun _ => fun
  | [d] => { results := [.lit (.bool true)], args := [d] }
  | _ => none }
def kernAnglesRow : OpenClaim := { program := "ytohdfialnaegcaa", sum := "de070db9e7e9a5be5274bc38e4668a8c29d8a0ace323164c02a3f008ca49cd9d", func := "gimbal/gimballaw04.KernAngles", spec := "kernAngles", unfollowed := true, recurses := true, apart := false }
def KernAnglesSaid : Prop := kernAnglesRow.holds Try.pinned (OpenSpec.ofChange kernAnglesSpec)

/-- ITS FALSE NEIGHBOUR: 'it returns false'. Refute it at one input. -/
def kernAnglesWrong : ChangeSpec := { name := "kernAngles", fn := fun _ => fun
  | [d] => { results := [.lit (.bool false)], args := [d] }
  | _ => none }
def KernAnglesWrongFalsely : Prop := kernAnglesRow.holds Try.pinned (OpenSpec.ofChange kernAnglesWrong)

/-- 'gimballaw04.KernCircle': WHATEVER THE INPUT: true; the input reads as it did. -/
def kernCircleSpec : ChangeSpec := { name := "kernCircle", fn := fun _ => fun
  | [d1, d2] => { results := [.lit (.bool true)], args := [d1, d2] }
  | _ => none }
def kernCircleRow : OpenClaim := { program := "ytohdfialnaegcaa", sum := "de070db9e7e9a5be5274bc38e4668a8c29d8a0ace323164c02a3f008ca49cd9d", func := "gimbal/gimballaw04.KernCircle", spec := "kernCircle", unfollowed := true, recurses := true, apart := false }
def KernCircleSaid : Prop := kernCircleRow.holds Try.pinned (OpenSpec.ofChange kernCircleSpec)

/-- ITS FALSE NEIGHBOUR: 'it returns false'. Refute it at one input. -/
def kernCircleWrong : ChangeSpec := { name := "kernCircle", fn := fun _ => fun
  | [d1, d2] => { results := [.lit (.bool false)], args := [d1, d2] }
  | _ => none }
def KernCircleWrongFalsely : Prop := kernCircleRow.holds Try.pinned (OpenSpec.ofChange kernCircleWrong)

/-- 'gimballaw04.KernHalves': WHATEVER THE INPUT: true; the input reads as it did. -/
def kernHalvesSpec : ChangeSpec := { name := "kernHalves", fn := fun _ => fun
  | [d] => { results := [.lit (.bool true)], args := [d] }
  | _ => none }
def kernHalvesRow : OpenClaim := { program := "ytohdfialnaegcaa", sum := "de070db9e7e9a5be5274bc38e4668a8c29d8a0ace323164c02a3f008ca49cd9d", func := "gimbal/gimballaw04.KernHalves", spec := "kernHalves", unfollowed := true, recurses := true, apart := false }
def KernHalvesSaid : Prop := kernHalvesRow.holds Try.pinned (OpenSpec.ofChange kernHalvesSpec)

/-- ITS FALSE NEIGHBOUR: 'it returns false'. Refute it at one input. -/
def kernHalvesWrong : ChangeSpec := { name := "kernHalves", fn := fun _ => fun
  | [d] => { results := [.lit (.bool false)], args := [d] }
  | _ => none }
def KernHalvesWrongFalsely : Prop := kernHalvesRow.holds Try.pinned (OpenSpec.ofChange kernHalvesWrong)

/-- 'gimballaw04.KernFalls': WHATEVER THE INPUT: true; the input reads as it did. -/
def kernFallsSpec : ChangeSpec := { name := "kernFalls", fn := fun _ => fun
  | [d1, d2, d3, d4] => { results := [.lit (.bool true)], args := [d1, d2, d3, d4] }
  | _ => none }
def kernFallsRow : OpenClaim := { program := "ytohdfialnaegcaa", sum := "de070db9e7e9a5be5274bc38e4668a8c29d8a0ace323164c02a3f008ca49cd9d", func := "gimbal/gimballaw04.KernFalls", spec := "kernFalls", unfollowed := true, recurses := true, apart := false }
def KernFallsSaid : Prop := kernFallsRow.holds Try.pinned (OpenSpec.ofChange kernFallsSpec)

/-- ITS FALSE NEIGHBOUR: 'it returns false'. Refute it at one input. -/
def kernFallsWrong : ChangeSpec := { name := "kernFalls", fn := fun _ => fun
  | [d1, d2, d3, d4] => { results := [.lit (.bool false)], args := [d1, d2, d3, d4] }
  | _ => none }
def KernFallsWrongFalsely : Prop := kernFallsRow.holds Try.pinned (OpenSpec.ofChange kernFallsWrong)

/-- 'gimballaw04.KernAdds': WHATEVER THE INPUT: true; the input reads as it did. -/
def kernAddsSpec : ChangeSpec := { name := "kernAdds", fn := fun _ => fun
  | [d1, d2] => { results := [.lit (.bool true)], args := [d1, d2] }
  | _ => none }
def kernAddsRow : OpenClaim := { program := "ytohdfialnaegcaa", sum := "de070db9e7e9a5be5274bc38e4668a8c29d8a0ace323164c02a3f008ca49cd9d", func := "gimbal/gimballaw04.KernAdds", spec := "kernAdds", unfollowed := true, recurses := true, apart := false }
def KernAddsSaid : Prop := kernAddsRow.holds Try.pinned (OpenSpec.ofChange kernAddsSpec)

/-- ITS FALSE NEIGHBOUR: 'it returns false'. Refute it at one input. -/
def kernAddsWrong : ChangeSpec := { name := "kernAdds", fn := fun _ => fun
  | [d1, d2] => { results := [.lit (.bool false)], args := [d1, d2] }
  | _ => none }
def KernAddsWrongFalsely : Prop := kernAddsRow.holds Try.pinned (OpenSpec.ofChange kernAddsWrong)

/-- 'gimballaw04.KernEven': WHATEVER THE INPUT: true; the input reads as it did. -/
def kernEvenSpec : ChangeSpec := { name := "kernEven", fn := fun _ => fun
  | [d] => { results := [.lit (.bool true)], args := [d] }
  | _ => none }
def kernEvenRow : OpenClaim := { program := "ytohdfialnaegcaa", sum := "de070db9e7e9a5be5274bc38e4668a8c29d8a0ace323164c02a3f008ca49cd9d", func := "gimbal/gimballaw04.KernEven", spec := "kernEven", unfollowed := true, recurses := true, apart := false }
def KernEvenSaid : Prop := kernEvenRow.holds Try.pinned (OpenSpec.ofChange kernEvenSpec)

/-- ITS FALSE NEIGHBOUR: 'it returns false'. Refute it at one input. -/
def kernEvenWrong : ChangeSpec := { name := "kernEven", fn := fun _ => fun
  | [d] => { results := [.lit (.bool false)], args := [d] }
  | _ => none }
def KernEvenWrongFalsely : Prop := kernEvenRow.holds Try.pinned (OpenSpec.ofChange kernEvenWrong)

/- THE SECOND FORM. 'bulk': how many values and letters a reading holds, each counted each time it is reached (what is shared counts as often as it is met; a slice's spare places count too). A statement '..UptoSaid' is the law's where the arguments, and the package variables that the reading takes, are together of bulk at most 1048576: NARROWER than '..Said'. Prove '..Said' where nothing that the law and all that it calls make is longer than what came in: it says more and counts as full. Else prove '..UptoSaid'. A law counts once. -/
mutual
def uptoBulk {H : Type} : DataW H → Nat
  | .lit (.string bytes) => bytes.length + 1
  | .lit _ => 1
  | .nil => 1
  | .ptr d => uptoBulk d + 1
  | .slice elems spare => uptoBulkAll elems + uptoBulkAll spare + 1
  | .agg parts => uptoBulkAll parts + 1
  | .iface _ d => uptoBulk d + 1
  | .map entries => uptoBulkEntries entries + 1
  | .held _ => 1
def uptoBulkAll {H : Type} : List (DataW H) → Nat
  | [] => 0
  | d :: r => uptoBulk d + uptoBulkAll r
def uptoBulkEntries {H : Type} : List (Lit × DataW H) → Nat
  | [] => 0
  | x :: r => uptoBulkEntry x + uptoBulkEntries r
def uptoBulkEntry {H : Type} : Lit × DataW H → Nat
  | (.string bytes, d) => bytes.length + uptoBulk d + 1
  | (_, d) => uptoBulk d + 1
 end
def uptoSmall : (H : Type) → List (DataW H) → Bool := fun _ ds => decide (uptoBulkAll ds ≤ 1048576)
def OpenSpec.upto (s : _root_.Go.ChangeSpec) : _root_.Go.OpenSpec := { _root_.Go.OpenSpec.ofChange s with cond := some uptoSmall }

/-- 'gimballaw03.SpanReckons', WHERE WHAT IT READS IS OF BULK AT MOST 1048576: true; the input reads as it did. -/
def spanReckonsUptoRow : OpenClaim := { program := "ytohdfialnaegcaa", sum := "de070db9e7e9a5be5274bc38e4668a8c29d8a0ace323164c02a3f008ca49cd9d", func := "gimbal/gimballaw03.SpanReckons", spec := "spanReckons", unfollowed := true, recurses := true, apart := false, narrowed := true }
def SpanReckonsUptoSaid : Prop := spanReckonsUptoRow.holds Try.pinned (OpenSpec.upto spanReckonsSpec)

/-- 'gimballaw03.SpanRoots', WHERE WHAT IT READS IS OF BULK AT MOST 1048576: true; the input reads as it did. -/
def spanRootsUptoRow : OpenClaim := { program := "ytohdfialnaegcaa", sum := "de070db9e7e9a5be5274bc38e4668a8c29d8a0ace323164c02a3f008ca49cd9d", func := "gimbal/gimballaw03.SpanRoots", spec := "spanRoots", unfollowed := true, recurses := true, apart := false, narrowed := true }
def SpanRootsUptoSaid : Prop := spanRootsUptoRow.holds Try.pinned (OpenSpec.upto spanRootsSpec)

/-- 'gimballaw04.KernPlays', WHERE WHAT IT READS IS OF BULK AT MOST 1048576: true; the input reads as it did. -/
def kernPlaysUptoRow : OpenClaim := { program := "ytohdfialnaegcaa", sum := "de070db9e7e9a5be5274bc38e4668a8c29d8a0ace323164c02a3f008ca49cd9d", func := "gimbal/gimballaw04.KernPlays", spec := "kernPlays", unfollowed := true, recurses := true, apart := false, narrowed := true }
def KernPlaysUptoSaid : Prop := kernPlaysUptoRow.holds Try.pinned (OpenSpec.upto kernPlaysSpec)

/-- 'gimballaw04.KernAngles', WHERE WHAT IT READS IS OF BULK AT MOST 1048576: true; the input reads as it did. -/
def kernAnglesUptoRow : OpenClaim := { program := "ytohdfialnaegcaa", sum := "de070db9e7e9a5be5274bc38e4668a8c29d8a0ace323164c02a3f008ca49cd9d", func := "gimbal/gimballaw04.KernAngles", spec := "kernAngles", unfollowed := true, recurses := true, apart := false, narrowed := true }
def KernAnglesUptoSaid : Prop := kernAnglesUptoRow.holds Try.pinned (OpenSpec.upto kernAnglesSpec)

/-- 'gimballaw04.KernCircle', WHERE WHAT IT READS IS OF BULK AT MOST 1048576: true; the input reads as it did. -/
def kernCircleUptoRow : OpenClaim := { program := "ytohdfialnaegcaa", sum := "de070db9e7e9a5be5274bc38e4668a8c29d8a0ace323164c02a3f008ca49cd9d", func := "gimbal/gimballaw04.KernCircle", spec := "kernCircle", unfollowed := true, recurses := true, apart := false, narrowed := true }
def KernCircleUptoSaid : Prop := kernCircleUptoRow.holds Try.pinned (OpenSpec.upto kernCircleSpec)

/-- 'gimballaw04.KernHalves', WHERE WHAT IT READS IS OF BULK AT MOST 1048576: true; the input reads as it did. -/
def kernHalvesUptoRow : OpenClaim := { program := "ytohdfialnaegcaa", sum := "de070db9e7e9a5be5274bc38e4668a8c29d8a0ace323164c02a3f008ca49cd9d", func := "gimbal/gimballaw04.KernHalves", spec := "kernHalves", unfollowed := true, recurses := true, apart := false, narrowed := true }
def KernHalvesUptoSaid : Prop := kernHalvesUptoRow.holds Try.pinned (OpenSpec.upto kernHalvesSpec)

/-- 'gimballaw04.KernFalls', WHERE WHAT IT READS IS OF BULK AT MOST 1048576: true; the input reads as it did. -/
def kernFallsUptoRow : OpenClaim := { program := "ytohdfialnaegcaa", sum := "de070db9e7e9a5be5274bc38e4668a8c29d8a0ace323164c02a3f008ca49cd9d", func := "gimbal/gimballaw04.KernFalls", spec := "kernFalls", unfollowed := true, recurses := true, apart := false, narrowed := true }
def KernFallsUptoSaid : Prop := kernFallsUptoRow.holds Try.pinned (OpenSpec.upto kernFallsSpec)

/-- 'gimballaw04.KernAdds', WHERE WHAT IT READS IS OF BULK AT MOST 1048576: true; the input reads as it did. -/
def kernAddsUptoRow : OpenClaim := { program := "ytohdfialnaegcaa", sum := "de070db9e7e9a5be5274bc38e4668a8c29d8a0ace323164c02a3f008ca49cd9d", func := "gimbal/gimballaw04.KernAdds", spec := "kernAdds", unfollowed := true, recurses := true, apart := false, narrowed := true }
def KernAddsUptoSaid : Prop := kernAddsUptoRow.holds Try.pinned (OpenSpec.upto kernAddsSpec)

/-- 'gimballaw04.KernEven', WHERE WHAT IT READS IS OF BULK AT MOST 1048576: true; the input reads as it did. -/
def kernEvenUptoRow : OpenClaim := { program := "ytohdfialnaegcaa", sum := "de070db9e7e9a5be5274bc38e4668a8c29d8a0ace323164c02a3f008ca49cd9d", func := "gimbal/gimballaw04.KernEven", spec := "kernEven", unfollowed := true, recurses := true, apart := false, narrowed := true }
def KernEvenUptoSaid : Prop := kernEvenUptoRow.holds Try.pinned (OpenSpec.upto kernEvenSpec)

end Rows
end Go.Proofs.Ytohdfialnaegcaa
