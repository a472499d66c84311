/-
  No cell of these rows narrows 'for every input' (looked for: loops, veiled, ifaces, maps, wideKeys, modest, calm, conditions, laid).
  DERIVED. THE GIVEN ROWS OF THIS SEAT. 7 by the template 'for every input the law returns true; each argument reads behind the call as it read before'; 0 by the template 'total and deterministic' (their statements: YtdochhhepmlapaaTotals.lean).
  GIVEN WITH THE SEED: the statements are not yours to turn. If you find one false, say at which input.
  Laid BY PROGRAM, IN A SANDBOX (cutbox-rows.mjs): the forced cells as the released guide's own fill.sh prints them over the translation cec8d061f03261bf… (all of the seat's roots in one cut). By AI agents, Wed Nov 11 2026. No macro, syntax, notation, axiom, sorry.
-/
import Derived.Test.YtdochhhepmlapaaChecked
import GoSem.Claim
import GoSem.ClaimJoined
import GoSem.ClaimMapViews
import Derived.JoinedTies
import Derived.KernelRfl
namespace Go.Proofs.Ytdochhhepmlapaa
/- THE CELL 'sum', in the pinned program and in every row, IS THE sha256 OF THE DUMP (.gsa) THAT YtdochhhepmlapaaProg.lean LOADS. Nothing in Lean hashes anything: it is a label: what it is worth is what the hold of that sum in a sandbox is worth. -/
noncomputable def Try.pinned : Pinned := { name := "ytdochhhepmlapaa", sum := "cec8d061f03261bf15b5e46a2231cf5200dc87259cda92489bef55a87f42e23d", checked := Try.checked }
namespace Rows
def none {H : Type} : Left H := { results := [], args := [] }

/-- 'gimballaw05.VecPlays': WHATEVER THE INPUT: true; the input reads as it did. -/
def vecPlaysSpec : ChangeSpec := { name := "vecPlays", fn := fun _ => fun
  | [d1, d2, d3] => { results := [.lit (.bool true)], args := [d1, d2, d3] }
  | _ => none }
def vecPlaysRow : OpenClaim := { program := "ytdochhhepmlapaa", sum := "cec8d061f03261bf15b5e46a2231cf5200dc87259cda92489bef55a87f42e23d", func := "gimbal/gimballaw05.VecPlays", spec := "vecPlays", unfollowed := true, recurses := true, apart := false }
def VecPlaysSaid : Prop := vecPlaysRow.holds Try.pinned (OpenSpec.ofChange vecPlaysSpec)

/-- ITS FALSE NEIGHBOUR: 'it returns false'. Refute it at one input. -/
def vecPlaysWrong : ChangeSpec := { name := "vecPlays", fn := fun _ => fun
  | [d1, d2, d3] => { results := [.lit (.bool false)], args := [d1, d2, d3] }
  | _ => none }
def VecPlaysWrongFalsely : Prop := vecPlaysRow.holds Try.pinned (OpenSpec.ofChange vecPlaysWrong)

/-- 'gimballaw05.VecTells': WHATEVER THE INPUT: true; the input reads as it did. -/
def vecTellsSpec : ChangeSpec := { name := "vecTells", fn := fun _ => fun
  | [d1, d2, d3, d4, d5] => { results := [.lit (.bool true)], args := [d1, d2, d3, d4, d5] }
  | _ => none }
def vecTellsRow : OpenClaim := { program := "ytdochhhepmlapaa", sum := "cec8d061f03261bf15b5e46a2231cf5200dc87259cda92489bef55a87f42e23d", func := "gimbal/gimballaw05.VecTells", spec := "vecTells", unfollowed := true, recurses := true, apart := false }
def VecTellsSaid : Prop := vecTellsRow.holds Try.pinned (OpenSpec.ofChange vecTellsSpec)

/-- ITS FALSE NEIGHBOUR: 'it returns false'. Refute it at one input. -/
def vecTellsWrong : ChangeSpec := { name := "vecTells", fn := fun _ => fun
  | [d1, d2, d3, d4, d5] => { results := [.lit (.bool false)], args := [d1, d2, d3, d4, d5] }
  | _ => none }
def VecTellsWrongFalsely : Prop := vecTellsRow.holds Try.pinned (OpenSpec.ofChange vecTellsWrong)

/-- 'gimballaw06.RotBack': WHATEVER THE INPUT: true; the input reads as it did. -/
def rotBackSpec : ChangeSpec := { name := "rotBack", fn := fun _ => fun
  | [d] => { results := [.lit (.bool true)], args := [d] }
  | _ => none }
def rotBackRow : OpenClaim := { program := "ytdochhhepmlapaa", sum := "cec8d061f03261bf15b5e46a2231cf5200dc87259cda92489bef55a87f42e23d", func := "gimbal/gimballaw06.RotBack", spec := "rotBack", unfollowed := true, recurses := true, apart := false }
def RotBackSaid : Prop := rotBackRow.holds Try.pinned (OpenSpec.ofChange rotBackSpec)

/-- ITS FALSE NEIGHBOUR: 'it returns false'. Refute it at one input. -/
def rotBackWrong : ChangeSpec := { name := "rotBack", fn := fun _ => fun
  | [d] => { results := [.lit (.bool false)], args := [d] }
  | _ => none }
def RotBackWrongFalsely : Prop := rotBackRow.holds Try.pinned (OpenSpec.ofChange rotBackWrong)

/-- 'gimballaw06.RotAxis': WHATEVER THE INPUT: true; the input reads as it did. -/
def rotAxisSpec : ChangeSpec := { name := "rotAxis", fn := fun _ => fun
  | [d1, d2, d3, d4, d5] => { results := [.lit (.bool true)], args := [d1, d2, d3, d4, d5] }
  | _ => none }
def rotAxisRow : OpenClaim := { program := "ytdochhhepmlapaa", sum := "cec8d061f03261bf15b5e46a2231cf5200dc87259cda92489bef55a87f42e23d", func := "gimbal/gimballaw06.RotAxis", spec := "rotAxis", unfollowed := true, recurses := true, apart := false }
def RotAxisSaid : Prop := rotAxisRow.holds Try.pinned (OpenSpec.ofChange rotAxisSpec)

/-- ITS FALSE NEIGHBOUR: 'it returns false'. Refute it at one input. -/
def rotAxisWrong : ChangeSpec := { name := "rotAxis", fn := fun _ => fun
  | [d1, d2, d3, d4, d5] => { results := [.lit (.bool false)], args := [d1, d2, d3, d4, d5] }
  | _ => none }
def RotAxisWrongFalsely : Prop := rotAxisRow.holds Try.pinned (OpenSpec.ofChange rotAxisWrong)

/-- 'gimballaw06.RotTwice': WHATEVER THE INPUT: true; the input reads as it did. -/
def rotTwiceSpec : ChangeSpec := { name := "rotTwice", fn := fun _ => fun
  | [d1, d2, d3, d4, d5] => { results := [.lit (.bool true)], args := [d1, d2, d3, d4, d5] }
  | _ => none }
def rotTwiceRow : OpenClaim := { program := "ytdochhhepmlapaa", sum := "cec8d061f03261bf15b5e46a2231cf5200dc87259cda92489bef55a87f42e23d", func := "gimbal/gimballaw06.RotTwice", spec := "rotTwice", unfollowed := true, recurses := true, apart := false }
def RotTwiceSaid : Prop := rotTwiceRow.holds Try.pinned (OpenSpec.ofChange rotTwiceSpec)

/-- ITS FALSE NEIGHBOUR: 'it returns false'. Refute it at one input. -/
def rotTwiceWrong : ChangeSpec := { name := "rotTwice", fn := fun _ => fun
  | [d1, d2, d3, d4, d5] => { results := [.lit (.bool false)], args := [d1, d2, d3, d4, d5] }
  | _ => none }
def RotTwiceWrongFalsely : Prop := rotTwiceRow.holds Try.pinned (OpenSpec.ofChange rotTwiceWrong)

/-- 'gimballaw06.RotNarrow': WHATEVER THE INPUT: true; the input reads as it did. -/
def rotNarrowSpec : ChangeSpec := { name := "rotNarrow", fn := fun _ => fun
  | [d1, d2, d3, d4, d5] => { results := [.lit (.bool true)], args := [d1, d2, d3, d4, d5] }
  | _ => none }
def rotNarrowRow : OpenClaim := { program := "ytdochhhepmlapaa", sum := "cec8d061f03261bf15b5e46a2231cf5200dc87259cda92489bef55a87f42e23d", func := "gimbal/gimballaw06.RotNarrow", spec := "rotNarrow", unfollowed := true, recurses := true, apart := false }
def RotNarrowSaid : Prop := rotNarrowRow.holds Try.pinned (OpenSpec.ofChange rotNarrowSpec)

/-- ITS FALSE NEIGHBOUR: 'it returns false'. Refute it at one input. -/
def rotNarrowWrong : ChangeSpec := { name := "rotNarrow", fn := fun _ => fun
  | [d1, d2, d3, d4, d5] => { results := [.lit (.bool false)], args := [d1, d2, d3, d4, d5] }
  | _ => none }
def RotNarrowWrongFalsely : Prop := rotNarrowRow.holds Try.pinned (OpenSpec.ofChange rotNarrowWrong)

/-- 'gimballaw06.RotChain': WHATEVER THE INPUT: true; the input reads as it did. -/
def rotChainSpec : ChangeSpec := { name := "rotChain", fn := fun _ => fun
  | [d1, d2, d3, d4] => { results := [.lit (.bool true)], args := [d1, d2, d3, d4] }
  | _ => none }
def rotChainRow : OpenClaim := { program := "ytdochhhepmlapaa", sum := "cec8d061f03261bf15b5e46a2231cf5200dc87259cda92489bef55a87f42e23d", func := "gimbal/gimballaw06.RotChain", spec := "rotChain", unfollowed := true, recurses := true, apart := false }
def RotChainSaid : Prop := rotChainRow.holds Try.pinned (OpenSpec.ofChange rotChainSpec)

/-- ITS FALSE NEIGHBOUR: 'it returns false'. Refute it at one input. -/
def rotChainWrong : ChangeSpec := { name := "rotChain", fn := fun _ => fun
  | [d1, d2, d3, d4] => { results := [.lit (.bool false)], args := [d1, d2, d3, d4] }
  | _ => none }
def RotChainWrongFalsely : Prop := rotChainRow.holds Try.pinned (OpenSpec.ofChange rotChainWrong)

/- THE SECOND FORM. 'bulk': how many values and letters a reading holds, each counted each time it is reached (what is shared counts as often as it is met; a slice's spare places count too). A statement '..UptoSaid' is the law's where the arguments, and the package variables that the reading takes, are together of bulk at most 1048576: NARROWER than '..Said'. Prove '..Said' where nothing that the law and all that it calls make is longer than what came in: it says more and counts as full. Else prove '..UptoSaid'. A law counts once. -/
mutual
def uptoBulk {H : Type} : DataW H → Nat
  | .lit (.string bytes) => bytes.length + 1
  | .lit _ => 1
  | .nil => 1
  | .ptr d => uptoBulk d + 1
  | .slice elems spare => uptoBulkAll elems + uptoBulkAll spare + 1
  | .agg parts => uptoBulkAll parts + 1
  | .iface _ d => uptoBulk d + 1
  | .map entries => uptoBulkEntries entries + 1
  | .held _ => 1
def uptoBulkAll {H : Type} : List (DataW H) → Nat
  | [] => 0
  | d :: r => uptoBulk d + uptoBulkAll r
def uptoBulkEntries {H : Type} : List (Lit × DataW H) → Nat
  | [] => 0
  | x :: r => uptoBulkEntry x + uptoBulkEntries r
def uptoBulkEntry {H : Type} : Lit × DataW H → Nat
  | (.string bytes, d) => bytes.length + uptoBulk d + 1
  | (_, d) => uptoBulk d + 1
 end
def uptoSmall : (H : Type) → List (DataW H) → Bool := fun _ ds => decide (uptoBulkAll ds ≤ 1048576)
def OpenSpec.upto (s : _root_.Go.ChangeSpec) : _root_.Go.OpenSpec := { _root_.Go.OpenSpec.ofChange s with cond := some uptoSmall }

/-- 'gimballaw05.VecPlays', WHERE WHAT IT READS IS OF BULK AT MOST 1048576: true; the input reads as it did. -/
def vecPlaysUptoRow : OpenClaim := { program := "ytdochhhepmlapaa", sum := "cec8d061f03261bf15b5e46a2231cf5200dc87259cda92489bef55a87f42e23d", func := "gimbal/gimballaw05.VecPlays", spec := "vecPlays", unfollowed := true, recurses := true, apart := false, narrowed := true }
def VecPlaysUptoSaid : Prop := vecPlaysUptoRow.holds Try.pinned (OpenSpec.upto vecPlaysSpec)

/-- 'gimballaw05.VecTells', WHERE WHAT IT READS IS OF BULK AT MOST 1048576: true; the input reads as it did. -/
def vecTellsUptoRow : OpenClaim := { program := "ytdochhhepmlapaa", sum := "cec8d061f03261bf15b5e46a2231cf5200dc87259cda92489bef55a87f42e23d", func := "gimbal/gimballaw05.VecTells", spec := "vecTells", unfollowed := true, recurses := true, apart := false, narrowed := true }
def VecTellsUptoSaid : Prop := vecTellsUptoRow.holds Try.pinned (OpenSpec.upto vecTellsSpec)

/-- 'gimballaw06.RotBack', WHERE WHAT IT READS IS OF BULK AT MOST 1048576: true; the input reads as it did. -/
def rotBackUptoRow : OpenClaim := { program := "ytdochhhepmlapaa", sum := "cec8d061f03261bf15b5e46a2231cf5200dc87259cda92489bef55a87f42e23d", func := "gimbal/gimballaw06.RotBack", spec := "rotBack", unfollowed := true, recurses := true, apart := false, narrowed := true }
def RotBackUptoSaid : Prop := rotBackUptoRow.holds Try.pinned (OpenSpec.upto rotBackSpec)

/-- 'gimballaw06.RotAxis', WHERE WHAT IT READS IS OF BULK AT MOST 1048576: true; the input reads as it did. -/
def rotAxisUptoRow : OpenClaim := { program := "ytdochhhepmlapaa", sum := "cec8d061f03261bf15b5e46a2231cf5200dc87259cda92489bef55a87f42e23d", func := "gimbal/gimballaw06.RotAxis", spec := "rotAxis", unfollowed := true, recurses := true, apart := false, narrowed := true }
def RotAxisUptoSaid : Prop := rotAxisUptoRow.holds Try.pinned (OpenSpec.upto rotAxisSpec)

/-- 'gimballaw06.RotTwice', WHERE WHAT IT READS IS OF BULK AT MOST 1048576: true; the input reads as it did. -/
def rotTwiceUptoRow : OpenClaim := { program := "ytdochhhepmlapaa", sum := "cec8d061f03261bf15b5e46a2231cf5200dc87259cda92489bef55a87f42e23d", func := "gimbal/gimballaw06.RotTwice", spec := "rotTwice", unfollowed := true, recurses := true, apart := false, narrowed := true }
def RotTwiceUptoSaid : Prop := rotTwiceUptoRow.holds Try.pinned (OpenSpec.upto rotTwiceSpec)

/-- 'gimballaw06.RotNarrow', WHERE WHAT IT READS IS OF BULK AT MOST 1048576: true; the input reads as it did. -/
def rotNarrowUptoRow : OpenClaim := { program := "ytdochhhepmlapaa", sum := "cec8d061f03261bf15b5e46a2231cf5200dc87259cda92489bef55a87f42e23d", func := "gimbal/gimballaw06.RotNarrow", spec := "rotNarrow", unfollowed := true, recurses := true, apart := false, narrowed := true }
def RotNarrowUptoSaid : Prop := rotNarrowUptoRow.holds Try.pinned (OpenSpec.upto rotNarrowSpec)

/-- 'gimballaw06.RotChain', WHERE WHAT IT READS IS OF BULK AT MOST 1048576: true; the input reads as it did. -/
def rotChainUptoRow : OpenClaim := { program := "ytdochhhepmlapaa", sum := "cec8d061f03261bf15b5e46a2231cf5200dc87259cda92489bef55a87f42e23d", func := "gimbal/gimballaw06.RotChain", spec := "rotChain", unfollowed := true, recurses := true, apart := false, narrowed := true }
def RotChainUptoSaid : Prop := rotChainUptoRow.holds Try.pinned (OpenSpec.upto rotChainSpec)

end Rows
end Go.Proofs.Ytdochhhepmlapaa
