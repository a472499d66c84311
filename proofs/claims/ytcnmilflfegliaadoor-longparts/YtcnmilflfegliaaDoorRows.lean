/-
  NARROWER THAN 'FOR EVERY INPUT', by the rows' own cells (each row's printed sentence says how): LongReckons: laid · LongParts: laid · LongTells: laid · LongDivides: laid · LongRoots: laid.
  DERIVED. THE GIVEN ROWS OF THIS SEAT. 5 by the template 'for every input the law returns true; each argument reads behind the call as it read before'; 0 by the template 'total and deterministic' (their statements: YtcnmilflfegliaaDoorTotals.lean).
  GIVEN WITH THE SEED: the statements are not yours to turn. If you find one false, say at which input.
  Laid BY PROGRAM, IN A SANDBOX (cutbox-rows.mjs): the forced cells as the released guide's own fill.sh prints them over the translation 52f3a29f993abacc… (all of the seat's roots in one cut). By AI agents, Wed Nov 11 2026. No macro, syntax, notation, axiom, sorry.
-/
import Derived.Test.YtcnmilflfegliaaDoorChecked
import GoSem.PinnedTables
import GoSem.Claim
import GoSem.ClaimJoined
import GoSem.ClaimMapViews
import Derived.JoinedTies
import Derived.KernelRfl
namespace Go.Proofs.YtcnmilflfegliaaDoor
/- THE CELL 'sum', in the pinned program and in every row, IS THE sha256 OF THE DUMP (.gsa) THAT YtcnmilflfegliaaDoorProg.lean LOADS. Nothing in Lean hashes anything: it is a label: what it is worth is what the hold of that sum in a sandbox is worth. -/
noncomputable def Tryd.pinned : Pinned := { name := "ytcnmilflfegliaadoor", sum := "52f3a29f993abaccbbd161f2fe7493123d024846b037265a4ed1ab585a823d67", checked := Tryd.checked }
namespace Rows
def none {H : Type} : Left H := { results := [], args := [] }

/- WHAT THE LISTED PACKAGE-LEVEL VARIABLES READ AS WHEN THE CALL BEGINS. Each datum BY PROGRAM (the guide's laid-datum.mjs) off the statement by which the dump's own 'gosem.cut.vars' lays the variable. In a bare row this is a premise. The card (YtcnmilflfegliaaDoorCards.lean) ties it to the program's text. -/
def laid_unicode_utf8_acceptRanges {H : Type} : DataW H := .agg [.agg [.lit (.int .u8 128), .lit (.int .u8 191)], .agg [.lit (.int .u8 160), .lit (.int .u8 191)], .agg [.lit (.int .u8 128), .lit (.int .u8 159)], .agg [.lit (.int .u8 144), .lit (.int .u8 191)], .agg [.lit (.int .u8 128), .lit (.int .u8 143)], .agg [.lit (.int .u8 0), .lit (.int .u8 0)], .agg [.lit (.int .u8 0), .lit (.int .u8 0)], .agg [.lit (.int .u8 0), .lit (.int .u8 0)], .agg [.lit (.int .u8 0), .lit (.int .u8 0)], .agg [.lit (.int .u8 0), .lit (.int .u8 0)], .agg [.lit (.int .u8 0), .lit (.int .u8 0)], .agg [.lit (.int .u8 0), .lit (.int .u8 0)], .agg [.lit (.int .u8 0), .lit (.int .u8 0)], .agg [.lit (.int .u8 0), .lit (.int .u8 0)], .agg [.lit (.int .u8 0), .lit (.int .u8 0)], .agg [.lit (.int .u8 0), .lit (.int .u8 0)]]
/-- One of Go's own tables, pinned by name: the form's constant. -/
def laid_unicode_utf8_first : DataW Unit := Go.Pinned.utf8First

/-- 'gimballaw01.LongReckons': WHATEVER THE INPUT: true; the input reads as it did. -/
def longReckonsSpec : ChangeSpec := { name := "longReckons", fn := fun _ => fun
  | [d1, d2] => { results := [.lit (.bool true)], args := [d1, d2] }
  | _ => none }
def longReckonsRow : OpenClaim := { program := "ytcnmilflfegliaadoor", sum := "52f3a29f993abaccbbd161f2fe7493123d024846b037265a4ed1ab585a823d67", func := "gimbal/gimballaw01.LongReckons", spec := "longReckons", inPlace := ["internal/bytealg.IndexByteString", "internal/bytealg.IndexString"], named := ["unicode/utf8.first", "unicode/utf8.acceptRanges", "internal/bytealg.MaxLen"], apart := false, laid := [("unicode/utf8.acceptRanges", laid_unicode_utf8_acceptRanges), ("unicode/utf8.first", laid_unicode_utf8_first)] }
def LongReckonsSaid : Prop := longReckonsRow.holds Tryd.pinned (OpenSpec.ofChange longReckonsSpec)

/-- ITS FALSE NEIGHBOUR: 'it returns false'. Refute it at one input. -/
def longReckonsWrong : ChangeSpec := { name := "longReckons", fn := fun _ => fun
  | [d1, d2] => { results := [.lit (.bool false)], args := [d1, d2] }
  | _ => none }
def LongReckonsWrongFalsely : Prop := longReckonsRow.holds Tryd.pinned (OpenSpec.ofChange longReckonsWrong)

/-- 'gimballaw01.LongParts': WHATEVER THE INPUT: true; the input reads as it did. -/
def longPartsSpec : ChangeSpec := { name := "longParts", fn := fun _ => fun
  | [d1, d2] => { results := [.lit (.bool true)], args := [d1, d2] }
  | _ => none }
def longPartsRow : OpenClaim := { program := "ytcnmilflfegliaadoor", sum := "52f3a29f993abaccbbd161f2fe7493123d024846b037265a4ed1ab585a823d67", func := "gimbal/gimballaw01.LongParts", spec := "longParts", inPlace := ["internal/bytealg.IndexByteString", "internal/bytealg.IndexString"], named := ["unicode/utf8.first", "unicode/utf8.acceptRanges", "internal/bytealg.MaxLen"], apart := false, laid := [("unicode/utf8.acceptRanges", laid_unicode_utf8_acceptRanges), ("unicode/utf8.first", laid_unicode_utf8_first)] }
def LongPartsSaid : Prop := longPartsRow.holds Tryd.pinned (OpenSpec.ofChange longPartsSpec)

/-- ITS FALSE NEIGHBOUR: 'it returns false'. Refute it at one input. -/
def longPartsWrong : ChangeSpec := { name := "longParts", fn := fun _ => fun
  | [d1, d2] => { results := [.lit (.bool false)], args := [d1, d2] }
  | _ => none }
def LongPartsWrongFalsely : Prop := longPartsRow.holds Tryd.pinned (OpenSpec.ofChange longPartsWrong)

/-- 'gimballaw01.LongTells': WHATEVER THE INPUT: true; the input reads as it did. -/
def longTellsSpec : ChangeSpec := { name := "longTells", fn := fun _ => fun
  | [d] => { results := [.lit (.bool true)], args := [d] }
  | _ => none }
def longTellsRow : OpenClaim := { program := "ytcnmilflfegliaadoor", sum := "52f3a29f993abaccbbd161f2fe7493123d024846b037265a4ed1ab585a823d67", func := "gimbal/gimballaw01.LongTells", spec := "longTells", inPlace := ["internal/bytealg.IndexByteString", "internal/bytealg.IndexString"], named := ["unicode/utf8.first", "unicode/utf8.acceptRanges", "internal/bytealg.MaxLen"], apart := false, laid := [("unicode/utf8.acceptRanges", laid_unicode_utf8_acceptRanges), ("unicode/utf8.first", laid_unicode_utf8_first)] }
def LongTellsSaid : Prop := longTellsRow.holds Tryd.pinned (OpenSpec.ofChange longTellsSpec)

/-- ITS FALSE NEIGHBOUR: 'it returns false'. Refute it at one input. -/
def longTellsWrong : ChangeSpec := { name := "longTells", fn := fun _ => fun
  | [d] => { results := [.lit (.bool false)], args := [d] }
  | _ => none }
def LongTellsWrongFalsely : Prop := longTellsRow.holds Tryd.pinned (OpenSpec.ofChange longTellsWrong)

/-- 'gimballaw01.LongDivides': WHATEVER THE INPUT: true; the input reads as it did. -/
def longDividesSpec : ChangeSpec := { name := "longDivides", fn := fun _ => fun
  | [d1, d2] => { results := [.lit (.bool true)], args := [d1, d2] }
  | _ => none }
def longDividesRow : OpenClaim := { program := "ytcnmilflfegliaadoor", sum := "52f3a29f993abaccbbd161f2fe7493123d024846b037265a4ed1ab585a823d67", func := "gimbal/gimballaw01.LongDivides", spec := "longDivides", inPlace := ["internal/bytealg.IndexByteString", "internal/bytealg.IndexString"], named := ["unicode/utf8.first", "unicode/utf8.acceptRanges", "internal/bytealg.MaxLen"], apart := false, laid := [("unicode/utf8.acceptRanges", laid_unicode_utf8_acceptRanges), ("unicode/utf8.first", laid_unicode_utf8_first)] }
def LongDividesSaid : Prop := longDividesRow.holds Tryd.pinned (OpenSpec.ofChange longDividesSpec)

/-- ITS FALSE NEIGHBOUR: 'it returns false'. Refute it at one input. -/
def longDividesWrong : ChangeSpec := { name := "longDivides", fn := fun _ => fun
  | [d1, d2] => { results := [.lit (.bool false)], args := [d1, d2] }
  | _ => none }
def LongDividesWrongFalsely : Prop := longDividesRow.holds Tryd.pinned (OpenSpec.ofChange longDividesWrong)

/-- 'gimballaw01.LongRoots': WHATEVER THE INPUT: true; the input reads as it did. -/
def longRootsSpec : ChangeSpec := { name := "longRoots", fn := fun _ => fun
  | [d] => { results := [.lit (.bool true)], args := [d] }
  | _ => none }
def longRootsRow : OpenClaim := { program := "ytcnmilflfegliaadoor", sum := "52f3a29f993abaccbbd161f2fe7493123d024846b037265a4ed1ab585a823d67", func := "gimbal/gimballaw01.LongRoots", spec := "longRoots", inPlace := ["internal/bytealg.IndexByteString", "internal/bytealg.IndexString"], named := ["unicode/utf8.first", "unicode/utf8.acceptRanges", "internal/bytealg.MaxLen"], apart := false, laid := [("unicode/utf8.acceptRanges", laid_unicode_utf8_acceptRanges), ("unicode/utf8.first", laid_unicode_utf8_first)] }
def LongRootsSaid : Prop := longRootsRow.holds Tryd.pinned (OpenSpec.ofChange longRootsSpec)

/-- ITS FALSE NEIGHBOUR: 'it returns false'. Refute it at one input. -/
def longRootsWrong : ChangeSpec := { name := "longRoots", fn := fun _ => fun
  | [d] => { results := [.lit (.bool false)], args := [d] }
  | _ => none }
def LongRootsWrongFalsely : Prop := longRootsRow.holds Tryd.pinned (OpenSpec.ofChange longRootsWrong)

/- THE SECOND FORM. 'bulk': how many values and letters a reading holds, each counted each time it is reached (what is shared counts as often as it is met; a slice's spare places count too). A statement '..UptoSaid' is the law's where the arguments, and the package variables that the reading takes, are together of bulk at most 1048576: NARROWER than '..Said'. Prove '..Said' where nothing that the law and all that it calls make is longer than what came in: it says more and counts as full. Else prove '..UptoSaid'. A law counts once. -/
mutual
def uptoBulk {H : Type} : DataW H → Nat
  | .lit (.string bytes) => bytes.length + 1
  | .lit _ => 1
  | .nil => 1
  | .ptr d => uptoBulk d + 1
  | .slice elems spare => uptoBulkAll elems + uptoBulkAll spare + 1
  | .agg parts => uptoBulkAll parts + 1
  | .iface _ d => uptoBulk d + 1
  | .map entries => uptoBulkEntries entries + 1
  | .held _ => 1
def uptoBulkAll {H : Type} : List (DataW H) → Nat
  | [] => 0
  | d :: r => uptoBulk d + uptoBulkAll r
def uptoBulkEntries {H : Type} : List (Lit × DataW H) → Nat
  | [] => 0
  | x :: r => uptoBulkEntry x + uptoBulkEntries r
def uptoBulkEntry {H : Type} : Lit × DataW H → Nat
  | (.string bytes, d) => bytes.length + uptoBulk d + 1
  | (_, d) => uptoBulk d + 1
 end
def uptoSmall : (H : Type) → List (DataW H) → Bool := fun _ ds => decide (uptoBulkAll ds ≤ 1048576)
def OpenSpec.upto (s : _root_.Go.ChangeSpec) : _root_.Go.OpenSpec := { _root_.Go.OpenSpec.ofChange s with cond := some uptoSmall }

/-- 'gimballaw01.LongReckons', WHERE WHAT IT READS IS OF BULK AT MOST 1048576: true; the input reads as it did. -/
def longReckonsUptoRow : OpenClaim := { program := "ytcnmilflfegliaadoor", sum := "52f3a29f993abaccbbd161f2fe7493123d024846b037265a4ed1ab585a823d67", func := "gimbal/gimballaw01.LongReckons", spec := "longReckons", inPlace := ["internal/bytealg.IndexByteString", "internal/bytealg.IndexString"], named := ["unicode/utf8.first", "unicode/utf8.acceptRanges", "internal/bytealg.MaxLen"], apart := false, laid := [("unicode/utf8.acceptRanges", laid_unicode_utf8_acceptRanges), ("unicode/utf8.first", laid_unicode_utf8_first)], narrowed := true }
def LongReckonsUptoSaid : Prop := longReckonsUptoRow.holds Tryd.pinned (OpenSpec.upto longReckonsSpec)

/-- 'gimballaw01.LongParts', WHERE WHAT IT READS IS OF BULK AT MOST 1048576: true; the input reads as it did. -/
def longPartsUptoRow : OpenClaim := { program := "ytcnmilflfegliaadoor", sum := "52f3a29f993abaccbbd161f2fe7493123d024846b037265a4ed1ab585a823d67", func := "gimbal/gimballaw01.LongParts", spec := "longParts", inPlace := ["internal/bytealg.IndexByteString", "internal/bytealg.IndexString"], named := ["unicode/utf8.first", "unicode/utf8.acceptRanges", "internal/bytealg.MaxLen"], apart := false, laid := [("unicode/utf8.acceptRanges", laid_unicode_utf8_acceptRanges), ("unicode/utf8.first", laid_unicode_utf8_first)], narrowed := true }
def LongPartsUptoSaid : Prop := longPartsUptoRow.holds Tryd.pinned (OpenSpec.upto longPartsSpec)

/-- 'gimballaw01.LongTells', WHERE WHAT IT READS IS OF BULK AT MOST 1048576: true; the input reads as it did. -/
def longTellsUptoRow : OpenClaim := { program := "ytcnmilflfegliaadoor", sum := "52f3a29f993abaccbbd161f2fe7493123d024846b037265a4ed1ab585a823d67", func := "gimbal/gimballaw01.LongTells", spec := "longTells", inPlace := ["internal/bytealg.IndexByteString", "internal/bytealg.IndexString"], named := ["unicode/utf8.first", "unicode/utf8.acceptRanges", "internal/bytealg.MaxLen"], apart := false, laid := [("unicode/utf8.acceptRanges", laid_unicode_utf8_acceptRanges), ("unicode/utf8.first", laid_unicode_utf8_first)], narrowed := true }
def LongTellsUptoSaid : Prop := longTellsUptoRow.holds Tryd.pinned (OpenSpec.upto longTellsSpec)

/-- 'gimballaw01.LongDivides', WHERE WHAT IT READS IS OF BULK AT MOST 1048576: true; the input reads as it did. -/
def longDividesUptoRow : OpenClaim := { program := "ytcnmilflfegliaadoor", sum := "52f3a29f993abaccbbd161f2fe7493123d024846b037265a4ed1ab585a823d67", func := "gimbal/gimballaw01.LongDivides", spec := "longDivides", inPlace := ["internal/bytealg.IndexByteString", "internal/bytealg.IndexString"], named := ["unicode/utf8.first", "unicode/utf8.acceptRanges", "internal/bytealg.MaxLen"], apart := false, laid := [("unicode/utf8.acceptRanges", laid_unicode_utf8_acceptRanges), ("unicode/utf8.first", laid_unicode_utf8_first)], narrowed := true }
def LongDividesUptoSaid : Prop := longDividesUptoRow.holds Tryd.pinned (OpenSpec.upto longDividesSpec)

/-- 'gimballaw01.LongRoots', WHERE WHAT IT READS IS OF BULK AT MOST 1048576: true; the input reads as it did. -/
def longRootsUptoRow : OpenClaim := { program := "ytcnmilflfegliaadoor", sum := "52f3a29f993abaccbbd161f2fe7493123d024846b037265a4ed1ab585a823d67", func := "gimbal/gimballaw01.LongRoots", spec := "longRoots", inPlace := ["internal/bytealg.IndexByteString", "internal/bytealg.IndexString"], named := ["unicode/utf8.first", "unicode/utf8.acceptRanges", "internal/bytealg.MaxLen"], apart := false, laid := [("unicode/utf8.acceptRanges", laid_unicode_utf8_acceptRanges), ("unicode/utf8.first", laid_unicode_utf8_first)], narrowed := true }
def LongRootsUptoSaid : Prop := longRootsUptoRow.holds Tryd.pinned (OpenSpec.upto longRootsSpec)

end Rows
end Go.Proofs.YtcnmilflfegliaaDoor
