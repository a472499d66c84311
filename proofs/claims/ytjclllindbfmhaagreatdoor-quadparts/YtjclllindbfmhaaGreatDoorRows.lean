/-
  NARROWER THAN 'FOR EVERY INPUT', by the rows' own cells (each row's printed sentence says how): QuadMakes: laid · QuadTells: laid · QuadParts: laid · QuadLeast: laid · QuadLeft: laid · QuadTwice: laid.
  DERIVED. THE GIVEN ROWS OF THIS SEAT. 6 by the template 'for every input the law returns true; each argument reads behind the call as it read before'; 0 by the template 'total and deterministic' (their statements: YtjclllindbfmhaaGreatDoorTotals.lean).
  GIVEN WITH THE SEED: the statements are not yours to turn. If you find one false, say at which input.
  Laid BY PROGRAM, IN A SANDBOX (cutbox-rows.mjs): the forced cells as the released guide's own fill.sh prints them over the translation 5ea0dad61bc7f34a… (all of the seat's roots in one cut). By AI agents, Wed Nov 11 2026. No macro, syntax, notation, axiom, sorry.
-/
import Derived.Test.YtjclllindbfmhaaGreatDoorChecked
import GoSem.PinnedTables
import GoSem.Claim
import GoSem.ClaimJoined
import GoSem.ClaimMapViews
import Derived.JoinedTies
import Derived.KernelRfl
namespace Go.Proofs.YtjclllindbfmhaaGreatDoor
/- THE CELL 'sum', in the pinned program and in every row, IS THE sha256 OF THE DUMP (.gsa) THAT YtjclllindbfmhaaGreatDoorProg.lean LOADS. Nothing in Lean hashes anything: it is a label: what it is worth is what the hold of that sum in a sandbox is worth. -/
noncomputable def Tryz.pinned : Pinned := { name := "ytjclllindbfmhaagreatdoor", sum := "5ea0dad61bc7f34a5fc8388646bdd4cf4a2445b975290d3d33ab7f4e409333f7", checked := Tryz.checked }
namespace Rows
def none {H : Type} : Left H := { results := [], args := [] }

/- WHAT THE LISTED PACKAGE-LEVEL VARIABLES READ AS WHEN THE CALL BEGINS. Each datum BY PROGRAM (the guide's laid-datum.mjs) off the statement by which the dump's own 'gosem.cut.vars' lays the variable. In a bare row this is a premise. The card (YtjclllindbfmhaaGreatDoorCards.lean) ties it to the program's text. -/
def laid_unicode_utf8_acceptRanges {H : Type} : DataW H := .agg [.agg [.lit (.int .u8 128), .lit (.int .u8 191)], .agg [.lit (.int .u8 160), .lit (.int .u8 191)], .agg [.lit (.int .u8 128), .lit (.int .u8 159)], .agg [.lit (.int .u8 144), .lit (.int .u8 191)], .agg [.lit (.int .u8 128), .lit (.int .u8 143)], .agg [.lit (.int .u8 0), .lit (.int .u8 0)], .agg [.lit (.int .u8 0), .lit (.int .u8 0)], .agg [.lit (.int .u8 0), .lit (.int .u8 0)], .agg [.lit (.int .u8 0), .lit (.int .u8 0)], .agg [.lit (.int .u8 0), .lit (.int .u8 0)], .agg [.lit (.int .u8 0), .lit (.int .u8 0)], .agg [.lit (.int .u8 0), .lit (.int .u8 0)], .agg [.lit (.int .u8 0), .lit (.int .u8 0)], .agg [.lit (.int .u8 0), .lit (.int .u8 0)], .agg [.lit (.int .u8 0), .lit (.int .u8 0)], .agg [.lit (.int .u8 0), .lit (.int .u8 0)]]
/-- One of Go's own tables, pinned by name: the form's constant. -/
def laid_unicode_utf8_first : DataW Unit := Go.Pinned.utf8First

/-- 'gimballaw08.QuadMakes': WHATEVER THE INPUT: true; the input reads as it did. -/
def quadMakesSpec : ChangeSpec := { name := "quadMakes", fn := fun _ => fun
  | [d1, d2, d3] => { results := [.lit (.bool true)], args := [d1, d2, d3] }
  | _ => none }
def quadMakesRow : OpenClaim := { program := "ytjclllindbfmhaagreatdoor", sum := "5ea0dad61bc7f34a5fc8388646bdd4cf4a2445b975290d3d33ab7f4e409333f7", func := "gimbal/gimballaw08.QuadMakes", spec := "quadMakes", inPlace := ["internal/bytealg.IndexByteString", "internal/bytealg.IndexString"], unfollowed := true, recurses := true, named := ["unicode/utf8.first", "unicode/utf8.acceptRanges", "internal/bytealg.MaxLen"], apart := false, laid := [("unicode/utf8.acceptRanges", laid_unicode_utf8_acceptRanges), ("unicode/utf8.first", laid_unicode_utf8_first)] }
def QuadMakesSaid : Prop := quadMakesRow.holds Tryz.pinned (OpenSpec.ofChange quadMakesSpec)

/-- ITS FALSE NEIGHBOUR: 'it returns false'. Refute it at one input. -/
def quadMakesWrong : ChangeSpec := { name := "quadMakes", fn := fun _ => fun
  | [d1, d2, d3] => { results := [.lit (.bool false)], args := [d1, d2, d3] }
  | _ => none }
def QuadMakesWrongFalsely : Prop := quadMakesRow.holds Tryz.pinned (OpenSpec.ofChange quadMakesWrong)

/-- 'gimballaw08.QuadTells': WHATEVER THE INPUT: true; the input reads as it did. -/
def quadTellsSpec : ChangeSpec := { name := "quadTells", fn := fun _ => fun
  | [d1, d2, d3, d4, d5, d6] => { results := [.lit (.bool true)], args := [d1, d2, d3, d4, d5, d6] }
  | _ => none }
def quadTellsRow : OpenClaim := { program := "ytjclllindbfmhaagreatdoor", sum := "5ea0dad61bc7f34a5fc8388646bdd4cf4a2445b975290d3d33ab7f4e409333f7", func := "gimbal/gimballaw08.QuadTells", spec := "quadTells", inPlace := ["internal/bytealg.IndexByteString", "internal/bytealg.IndexString"], unfollowed := true, recurses := true, named := ["unicode/utf8.first", "unicode/utf8.acceptRanges", "internal/bytealg.MaxLen"], apart := false, laid := [("unicode/utf8.acceptRanges", laid_unicode_utf8_acceptRanges), ("unicode/utf8.first", laid_unicode_utf8_first)] }
def QuadTellsSaid : Prop := quadTellsRow.holds Tryz.pinned (OpenSpec.ofChange quadTellsSpec)

/-- ITS FALSE NEIGHBOUR: 'it returns false'. Refute it at one input. -/
def quadTellsWrong : ChangeSpec := { name := "quadTells", fn := fun _ => fun
  | [d1, d2, d3, d4, d5, d6] => { results := [.lit (.bool false)], args := [d1, d2, d3, d4, d5, d6] }
  | _ => none }
def QuadTellsWrongFalsely : Prop := quadTellsRow.holds Tryz.pinned (OpenSpec.ofChange quadTellsWrong)

/-- 'gimballaw08.QuadParts': WHATEVER THE INPUT: true; the input reads as it did. -/
def quadPartsSpec : ChangeSpec := { name := "quadParts", fn := fun _ => fun
  | [d1, d2, d3, d4, d5] => { results := [.lit (.bool true)], args := [d1, d2, d3, d4, d5] }
  | _ => none }
def quadPartsRow : OpenClaim := { program := "ytjclllindbfmhaagreatdoor", sum := "5ea0dad61bc7f34a5fc8388646bdd4cf4a2445b975290d3d33ab7f4e409333f7", func := "gimbal/gimballaw08.QuadParts", spec := "quadParts", inPlace := ["internal/bytealg.IndexByteString", "internal/bytealg.IndexString"], unfollowed := true, recurses := true, named := ["unicode/utf8.first", "unicode/utf8.acceptRanges", "internal/bytealg.MaxLen"], apart := false, laid := [("unicode/utf8.acceptRanges", laid_unicode_utf8_acceptRanges), ("unicode/utf8.first", laid_unicode_utf8_first)] }
def QuadPartsSaid : Prop := quadPartsRow.holds Tryz.pinned (OpenSpec.ofChange quadPartsSpec)

/-- ITS FALSE NEIGHBOUR: 'it returns false'. Refute it at one input. -/
def quadPartsWrong : ChangeSpec := { name := "quadParts", fn := fun _ => fun
  | [d1, d2, d3, d4, d5] => { results := [.lit (.bool false)], args := [d1, d2, d3, d4, d5] }
  | _ => none }
def QuadPartsWrongFalsely : Prop := quadPartsRow.holds Tryz.pinned (OpenSpec.ofChange quadPartsWrong)

/-- 'gimballaw08.QuadLeast': WHATEVER THE INPUT: true; the input reads as it did. -/
def quadLeastSpec : ChangeSpec := { name := "quadLeast", fn := fun _ => fun
  | [d1, d2, d3, d4] => { results := [.lit (.bool true)], args := [d1, d2, d3, d4] }
  | _ => none }
def quadLeastRow : OpenClaim := { program := "ytjclllindbfmhaagreatdoor", sum := "5ea0dad61bc7f34a5fc8388646bdd4cf4a2445b975290d3d33ab7f4e409333f7", func := "gimbal/gimballaw08.QuadLeast", spec := "quadLeast", inPlace := ["internal/bytealg.IndexByteString", "internal/bytealg.IndexString"], unfollowed := true, recurses := true, named := ["unicode/utf8.first", "unicode/utf8.acceptRanges", "internal/bytealg.MaxLen"], apart := false, laid := [("unicode/utf8.acceptRanges", laid_unicode_utf8_acceptRanges), ("unicode/utf8.first", laid_unicode_utf8_first)] }
def QuadLeastSaid : Prop := quadLeastRow.holds Tryz.pinned (OpenSpec.ofChange quadLeastSpec)

/-- ITS FALSE NEIGHBOUR: 'it returns false'. Refute it at one input. -/
def quadLeastWrong : ChangeSpec := { name := "quadLeast", fn := fun _ => fun
  | [d1, d2, d3, d4] => { results := [.lit (.bool false)], args := [d1, d2, d3, d4] }
  | _ => none }
def QuadLeastWrongFalsely : Prop := quadLeastRow.holds Tryz.pinned (OpenSpec.ofChange quadLeastWrong)

/-- 'gimballaw08.QuadLeft': WHATEVER THE INPUT: true; the input reads as it did. -/
def quadLeftSpec : ChangeSpec := { name := "quadLeft", fn := fun _ => fun
  | [d1, d2, d3, d4, d5] => { results := [.lit (.bool true)], args := [d1, d2, d3, d4, d5] }
  | _ => none }
def quadLeftRow : OpenClaim := { program := "ytjclllindbfmhaagreatdoor", sum := "5ea0dad61bc7f34a5fc8388646bdd4cf4a2445b975290d3d33ab7f4e409333f7", func := "gimbal/gimballaw08.QuadLeft", spec := "quadLeft", inPlace := ["internal/bytealg.IndexByteString", "internal/bytealg.IndexString"], unfollowed := true, recurses := true, named := ["unicode/utf8.first", "unicode/utf8.acceptRanges", "internal/bytealg.MaxLen"], apart := false, laid := [("unicode/utf8.acceptRanges", laid_unicode_utf8_acceptRanges), ("unicode/utf8.first", laid_unicode_utf8_first)] }
def QuadLeftSaid : Prop := quadLeftRow.holds Tryz.pinned (OpenSpec.ofChange quadLeftSpec)

/-- ITS FALSE NEIGHBOUR: 'it returns false'. Refute it at one input. -/
def quadLeftWrong : ChangeSpec := { name := "quadLeft", fn := fun _ => fun
  | [d1, d2, d3, d4, d5] => { results := [.lit (.bool false)], args := [d1, d2, d3, d4, d5] }
  | _ => none }
def QuadLeftWrongFalsely : Prop := quadLeftRow.holds Tryz.pinned (OpenSpec.ofChange quadLeftWrong)

/-- 'gimballaw08.QuadTwice': WHATEVER THE INPUT: true; the input reads as it did. -/
def quadTwiceSpec : ChangeSpec := { name := "quadTwice", fn := fun _ => fun
  | [d1, d2, d3, d4, d5, d6] => { results := [.lit (.bool true)], args := [d1, d2, d3, d4, d5, d6] }
  | _ => none }
def quadTwiceRow : OpenClaim := { program := "ytjclllindbfmhaagreatdoor", sum := "5ea0dad61bc7f34a5fc8388646bdd4cf4a2445b975290d3d33ab7f4e409333f7", func := "gimbal/gimballaw08.QuadTwice", spec := "quadTwice", inPlace := ["internal/bytealg.IndexByteString", "internal/bytealg.IndexString"], unfollowed := true, recurses := true, named := ["unicode/utf8.first", "unicode/utf8.acceptRanges", "internal/bytealg.MaxLen"], apart := false, laid := [("unicode/utf8.acceptRanges", laid_unicode_utf8_acceptRanges), ("unicode/utf8.first", laid_unicode_utf8_first)] }
def QuadTwiceSaid : Prop := quadTwiceRow.holds Tryz.pinned (OpenSpec.ofChange quadTwiceSpec)

/-- ITS FALSE NEIGHBOUR: 'it returns false'. Refute it at one input. -/
def quadTwiceWrong : ChangeSpec := { name := "quadTwice", fn := fun _ => fun
  | [d1, d2, d3, d4, d5, d6] => { results := [.lit (.bool false)], args := [d1, d2, d3, d4, d5, d6] }
  | _ => none }
def QuadTwiceWrongFalsely : Prop := quadTwiceRow.holds Tryz.pinned (OpenSpec.ofChange quadTwiceWrong)

/- THE SECOND FORM. 'bulk': how many values and letters a reading holds, each counted each time it is reached (what is shared counts as often as it is met; a slice's spare places count too). A statement '..UptoSaid' is the law's where the arguments, and the package variables that the reading takes, are together of bulk at most 1048576: NARROWER than '..Said'. Prove '..Said' where nothing that the law and all that it calls make is longer than what came in: it says more and counts as full. Else prove '..UptoSaid'. A law counts once. -/
mutual
def uptoBulk {H : Type} : DataW H → Nat
  | .lit (.string bytes) => bytes.length + 1
  | .lit _ => 1
  | .nil => 1
  | .ptr d => uptoBulk d + 1
  | .slice elems spare => uptoBulkAll elems + uptoBulkAll spare + 1
  | .agg parts => uptoBulkAll parts + 1
  | .iface _ d => uptoBulk d + 1
  | .map entries => uptoBulkEntries entries + 1
  | .held _ => 1
def uptoBulkAll {H : Type} : List (DataW H) → Nat
  | [] => 0
  | d :: r => uptoBulk d + uptoBulkAll r
def uptoBulkEntries {H : Type} : List (Lit × DataW H) → Nat
  | [] => 0
  | x :: r => uptoBulkEntry x + uptoBulkEntries r
def uptoBulkEntry {H : Type} : Lit × DataW H → Nat
  | (.string bytes, d) => bytes.length + uptoBulk d + 1
  | (_, d) => uptoBulk d + 1
 end
def uptoSmall : (H : Type) → List (DataW H) → Bool := fun _ ds => decide (uptoBulkAll ds ≤ 1048576)
def OpenSpec.upto (s : _root_.Go.ChangeSpec) : _root_.Go.OpenSpec := { _root_.Go.OpenSpec.ofChange s with cond := some uptoSmall }

/-- 'gimballaw08.QuadMakes', WHERE WHAT IT READS IS OF BULK AT MOST 1048576: true; the input reads as it did. -/
def quadMakesUptoRow : OpenClaim := { program := "ytjclllindbfmhaagreatdoor", sum := "5ea0dad61bc7f34a5fc8388646bdd4cf4a2445b975290d3d33ab7f4e409333f7", func := "gimbal/gimballaw08.QuadMakes", spec := "quadMakes", inPlace := ["internal/bytealg.IndexByteString", "internal/bytealg.IndexString"], unfollowed := true, recurses := true, named := ["unicode/utf8.first", "unicode/utf8.acceptRanges", "internal/bytealg.MaxLen"], apart := false, laid := [("unicode/utf8.acceptRanges", laid_unicode_utf8_acceptRanges), ("unicode/utf8.first", laid_unicode_utf8_first)], narrowed := true }
def QuadMakesUptoSaid : Prop := quadMakesUptoRow.holds Tryz.pinned (OpenSpec.upto quadMakesSpec)

/-- 'gimballaw08.QuadTells', WHERE WHAT IT READS IS OF BULK AT MOST 1048576: true; the input reads as it did. -/
def quadTellsUptoRow : OpenClaim := { program := "ytjclllindbfmhaagreatdoor", sum := "5ea0dad61bc7f34a5fc8388646bdd4cf4a2445b975290d3d33ab7f4e409333f7", func := "gimbal/gimballaw08.QuadTells", spec := "quadTells", inPlace := ["internal/bytealg.IndexByteString", "internal/bytealg.IndexString"], unfollowed := true, recurses := true, named := ["unicode/utf8.first", "unicode/utf8.acceptRanges", "internal/bytealg.MaxLen"], apart := false, laid := [("unicode/utf8.acceptRanges", laid_unicode_utf8_acceptRanges), ("unicode/utf8.first", laid_unicode_utf8_first)], narrowed := true }
def QuadTellsUptoSaid : Prop := quadTellsUptoRow.holds Tryz.pinned (OpenSpec.upto quadTellsSpec)

/-- 'gimballaw08.QuadParts', WHERE WHAT IT READS IS OF BULK AT MOST 1048576: true; the input reads as it did. -/
def quadPartsUptoRow : OpenClaim := { program := "ytjclllindbfmhaagreatdoor", sum := "5ea0dad61bc7f34a5fc8388646bdd4cf4a2445b975290d3d33ab7f4e409333f7", func := "gimbal/gimballaw08.QuadParts", spec := "quadParts", inPlace := ["internal/bytealg.IndexByteString", "internal/bytealg.IndexString"], unfollowed := true, recurses := true, named := ["unicode/utf8.first", "unicode/utf8.acceptRanges", "internal/bytealg.MaxLen"], apart := false, laid := [("unicode/utf8.acceptRanges", laid_unicode_utf8_acceptRanges), ("unicode/utf8.first", laid_unicode_utf8_first)], narrowed := true }
def QuadPartsUptoSaid : Prop := quadPartsUptoRow.holds Tryz.pinned (OpenSpec.upto quadPartsSpec)

/-- 'gimballaw08.QuadLeast', WHERE WHAT IT READS IS OF BULK AT MOST 1048576: true; the input reads as it did. -/
def quadLeastUptoRow : OpenClaim := { program := "ytjclllindbfmhaagreatdoor", sum := "5ea0dad61bc7f34a5fc8388646bdd4cf4a2445b975290d3d33ab7f4e409333f7", func := "gimbal/gimballaw08.QuadLeast", spec := "quadLeast", inPlace := ["internal/bytealg.IndexByteString", "internal/bytealg.IndexString"], unfollowed := true, recurses := true, named := ["unicode/utf8.first", "unicode/utf8.acceptRanges", "internal/bytealg.MaxLen"], apart := false, laid := [("unicode/utf8.acceptRanges", laid_unicode_utf8_acceptRanges), ("unicode/utf8.first", laid_unicode_utf8_first)], narrowed := true }
def QuadLeastUptoSaid : Prop := quadLeastUptoRow.holds Tryz.pinned (OpenSpec.upto quadLeastSpec)

/-- 'gimballaw08.QuadLeft', WHERE WHAT IT READS IS OF BULK AT MOST 1048576: true; the input reads as it did. -/
def quadLeftUptoRow : OpenClaim := { program := "ytjclllindbfmhaagreatdoor", sum := "5ea0dad61bc7f34a5fc8388646bdd4cf4a2445b975290d3d33ab7f4e409333f7", func := "gimbal/gimballaw08.QuadLeft", spec := "quadLeft", inPlace := ["internal/bytealg.IndexByteString", "internal/bytealg.IndexString"], unfollowed := true, recurses := true, named := ["unicode/utf8.first", "unicode/utf8.acceptRanges", "internal/bytealg.MaxLen"], apart := false, laid := [("unicode/utf8.acceptRanges", laid_unicode_utf8_acceptRanges), ("unicode/utf8.first", laid_unicode_utf8_first)], narrowed := true }
def QuadLeftUptoSaid : Prop := quadLeftUptoRow.holds Tryz.pinned (OpenSpec.upto quadLeftSpec)

/-- 'gimballaw08.QuadTwice', WHERE WHAT IT READS IS OF BULK AT MOST 1048576: true; the input reads as it did. -/
def quadTwiceUptoRow : OpenClaim := { program := "ytjclllindbfmhaagreatdoor", sum := "5ea0dad61bc7f34a5fc8388646bdd4cf4a2445b975290d3d33ab7f4e409333f7", func := "gimbal/gimballaw08.QuadTwice", spec := "quadTwice", inPlace := ["internal/bytealg.IndexByteString", "internal/bytealg.IndexString"], unfollowed := true, recurses := true, named := ["unicode/utf8.first", "unicode/utf8.acceptRanges", "internal/bytealg.MaxLen"], apart := false, laid := [("unicode/utf8.acceptRanges", laid_unicode_utf8_acceptRanges), ("unicode/utf8.first", laid_unicode_utf8_first)], narrowed := true }
def QuadTwiceUptoSaid : Prop := quadTwiceUptoRow.holds Tryz.pinned (OpenSpec.upto quadTwiceSpec)

end Rows
end Go.Proofs.YtjclllindbfmhaaGreatDoor
