/-
  NARROWER THAN 'FOR EVERY INPUT', by the rows' own cells (each row's printed sentence says how): LinMakes: laid · LinDets: laid · LinBack: laid · LinRules: laid · LinDefinite: laid · LinChain: laid.
  DERIVED. THE GIVEN ROWS OF THIS SEAT. 6 by the template 'for every input the law returns true; each argument reads behind the call as it read before'; 0 by the template 'total and deterministic' (their statements: YtolpfibihialkaaDoorTotals.lean).
  GIVEN WITH THE SEED: the statements are not yours to turn. If you find one false, say at which input.
  Laid BY PROGRAM, IN A SANDBOX (cutbox-rows.mjs): the forced cells as the released guide's own fill.sh prints them over the translation b35aa1665171ee09… (all of the seat's roots in one cut). By AI agents, Wed Nov 11 2026. No macro, syntax, notation, axiom, sorry.
-/
import Derived.Test.YtolpfibihialkaaDoorChecked
import GoSem.PinnedTables
import GoSem.Claim
import GoSem.ClaimJoined
import GoSem.ClaimMapViews
import Derived.JoinedTies
import Derived.KernelRfl
namespace Go.Proofs.YtolpfibihialkaaDoor
/- THE CELL 'sum', in the pinned program and in every row, IS THE sha256 OF THE DUMP (.gsa) THAT YtolpfibihialkaaDoorProg.lean LOADS. Nothing in Lean hashes anything: it is a label: what it is worth is what the hold of that sum in a sandbox is worth. -/
noncomputable def Tryd.pinned : Pinned := { name := "ytolpfibihialkaadoor", sum := "b35aa1665171ee090f36882bd3994c10ccb0ee1825b97b33b52ee09557f0fb30", checked := Tryd.checked }
namespace Rows
def none {H : Type} : Left H := { results := [], args := [] }

/- WHAT THE LISTED PACKAGE-LEVEL VARIABLES READ AS WHEN THE CALL BEGINS. Each datum BY PROGRAM (the guide's laid-datum.mjs) off the statement by which the dump's own 'gosem.cut.vars' lays the variable. In a bare row this is a premise. The card (YtolpfibihialkaaDoorCards.lean) ties it to the program's text. -/
def laid_unicode_utf8_acceptRanges {H : Type} : DataW H := .agg [.agg [.lit (.int .u8 128), .lit (.int .u8 191)], .agg [.lit (.int .u8 160), .lit (.int .u8 191)], .agg [.lit (.int .u8 128), .lit (.int .u8 159)], .agg [.lit (.int .u8 144), .lit (.int .u8 191)], .agg [.lit (.int .u8 128), .lit (.int .u8 143)], .agg [.lit (.int .u8 0), .lit (.int .u8 0)], .agg [.lit (.int .u8 0), .lit (.int .u8 0)], .agg [.lit (.int .u8 0), .lit (.int .u8 0)], .agg [.lit (.int .u8 0), .lit (.int .u8 0)], .agg [.lit (.int .u8 0), .lit (.int .u8 0)], .agg [.lit (.int .u8 0), .lit (.int .u8 0)], .agg [.lit (.int .u8 0), .lit (.int .u8 0)], .agg [.lit (.int .u8 0), .lit (.int .u8 0)], .agg [.lit (.int .u8 0), .lit (.int .u8 0)], .agg [.lit (.int .u8 0), .lit (.int .u8 0)], .agg [.lit (.int .u8 0), .lit (.int .u8 0)]]
/-- One of Go's own tables, pinned by name: the form's constant. -/
def laid_unicode_utf8_first : DataW Unit := Go.Pinned.utf8First

/-- 'gimballaw07.LinMakes': WHATEVER THE INPUT: true; the input reads as it did. -/
def linMakesSpec : ChangeSpec := { name := "linMakes", fn := fun _ => fun
  | [d] => { results := [.lit (.bool true)], args := [d] }
  | _ => none }
def linMakesRow : OpenClaim := { program := "ytolpfibihialkaadoor", sum := "b35aa1665171ee090f36882bd3994c10ccb0ee1825b97b33b52ee09557f0fb30", func := "gimbal/gimballaw07.LinMakes", spec := "linMakes", inPlace := ["internal/bytealg.IndexByteString", "internal/bytealg.IndexString"], unfollowed := true, recurses := true, named := ["unicode/utf8.first", "unicode/utf8.acceptRanges", "internal/bytealg.MaxLen"], apart := false, laid := [("unicode/utf8.acceptRanges", laid_unicode_utf8_acceptRanges), ("unicode/utf8.first", laid_unicode_utf8_first)] }
def LinMakesSaid : Prop := linMakesRow.holds Tryd.pinned (OpenSpec.ofChange linMakesSpec)

/-- ITS FALSE NEIGHBOUR: 'it returns false'. Refute it at one input. -/
def linMakesWrong : ChangeSpec := { name := "linMakes", fn := fun _ => fun
  | [d] => { results := [.lit (.bool false)], args := [d] }
  | _ => none }
def LinMakesWrongFalsely : Prop := linMakesRow.holds Tryd.pinned (OpenSpec.ofChange linMakesWrong)

/-- 'gimballaw07.LinDets': WHATEVER THE INPUT: true; the input reads as it did. -/
def linDetsSpec : ChangeSpec := { name := "linDets", fn := fun _ => fun
  | [d1, d2] => { results := [.lit (.bool true)], args := [d1, d2] }
  | _ => none }
def linDetsRow : OpenClaim := { program := "ytolpfibihialkaadoor", sum := "b35aa1665171ee090f36882bd3994c10ccb0ee1825b97b33b52ee09557f0fb30", func := "gimbal/gimballaw07.LinDets", spec := "linDets", inPlace := ["internal/bytealg.IndexByteString", "internal/bytealg.IndexString"], unfollowed := true, recurses := true, named := ["unicode/utf8.first", "unicode/utf8.acceptRanges", "internal/bytealg.MaxLen"], apart := false, laid := [("unicode/utf8.acceptRanges", laid_unicode_utf8_acceptRanges), ("unicode/utf8.first", laid_unicode_utf8_first)] }
def LinDetsSaid : Prop := linDetsRow.holds Tryd.pinned (OpenSpec.ofChange linDetsSpec)

/-- ITS FALSE NEIGHBOUR: 'it returns false'. Refute it at one input. -/
def linDetsWrong : ChangeSpec := { name := "linDets", fn := fun _ => fun
  | [d1, d2] => { results := [.lit (.bool false)], args := [d1, d2] }
  | _ => none }
def LinDetsWrongFalsely : Prop := linDetsRow.holds Tryd.pinned (OpenSpec.ofChange linDetsWrong)

/-- 'gimballaw07.LinBack': WHATEVER THE INPUT: true; the input reads as it did. -/
def linBackSpec : ChangeSpec := { name := "linBack", fn := fun _ => fun
  | [d1, d2] => { results := [.lit (.bool true)], args := [d1, d2] }
  | _ => none }
def linBackRow : OpenClaim := { program := "ytolpfibihialkaadoor", sum := "b35aa1665171ee090f36882bd3994c10ccb0ee1825b97b33b52ee09557f0fb30", func := "gimbal/gimballaw07.LinBack", spec := "linBack", inPlace := ["internal/bytealg.IndexByteString", "internal/bytealg.IndexString"], unfollowed := true, recurses := true, named := ["unicode/utf8.first", "unicode/utf8.acceptRanges", "internal/bytealg.MaxLen"], apart := false, laid := [("unicode/utf8.acceptRanges", laid_unicode_utf8_acceptRanges), ("unicode/utf8.first", laid_unicode_utf8_first)] }
def LinBackSaid : Prop := linBackRow.holds Tryd.pinned (OpenSpec.ofChange linBackSpec)

/-- ITS FALSE NEIGHBOUR: 'it returns false'. Refute it at one input. -/
def linBackWrong : ChangeSpec := { name := "linBack", fn := fun _ => fun
  | [d1, d2] => { results := [.lit (.bool false)], args := [d1, d2] }
  | _ => none }
def LinBackWrongFalsely : Prop := linBackRow.holds Tryd.pinned (OpenSpec.ofChange linBackWrong)

/-- 'gimballaw07.LinRules': WHATEVER THE INPUT: true; the input reads as it did. -/
def linRulesSpec : ChangeSpec := { name := "linRules", fn := fun _ => fun
  | [d1, d2, d3, d4, d5] => { results := [.lit (.bool true)], args := [d1, d2, d3, d4, d5] }
  | _ => none }
def linRulesRow : OpenClaim := { program := "ytolpfibihialkaadoor", sum := "b35aa1665171ee090f36882bd3994c10ccb0ee1825b97b33b52ee09557f0fb30", func := "gimbal/gimballaw07.LinRules", spec := "linRules", inPlace := ["internal/bytealg.IndexByteString", "internal/bytealg.IndexString"], unfollowed := true, recurses := true, named := ["unicode/utf8.first", "unicode/utf8.acceptRanges", "internal/bytealg.MaxLen"], apart := false, laid := [("unicode/utf8.acceptRanges", laid_unicode_utf8_acceptRanges), ("unicode/utf8.first", laid_unicode_utf8_first)] }
def LinRulesSaid : Prop := linRulesRow.holds Tryd.pinned (OpenSpec.ofChange linRulesSpec)

/-- ITS FALSE NEIGHBOUR: 'it returns false'. Refute it at one input. -/
def linRulesWrong : ChangeSpec := { name := "linRules", fn := fun _ => fun
  | [d1, d2, d3, d4, d5] => { results := [.lit (.bool false)], args := [d1, d2, d3, d4, d5] }
  | _ => none }
def LinRulesWrongFalsely : Prop := linRulesRow.holds Tryd.pinned (OpenSpec.ofChange linRulesWrong)

/-- 'gimballaw07.LinDefinite': WHATEVER THE INPUT: true; the input reads as it did. -/
def linDefiniteSpec : ChangeSpec := { name := "linDefinite", fn := fun _ => fun
  | [d1, d2] => { results := [.lit (.bool true)], args := [d1, d2] }
  | _ => none }
def linDefiniteRow : OpenClaim := { program := "ytolpfibihialkaadoor", sum := "b35aa1665171ee090f36882bd3994c10ccb0ee1825b97b33b52ee09557f0fb30", func := "gimbal/gimballaw07.LinDefinite", spec := "linDefinite", inPlace := ["internal/bytealg.IndexByteString", "internal/bytealg.IndexString"], unfollowed := true, recurses := true, named := ["unicode/utf8.first", "unicode/utf8.acceptRanges", "internal/bytealg.MaxLen"], apart := false, laid := [("unicode/utf8.acceptRanges", laid_unicode_utf8_acceptRanges), ("unicode/utf8.first", laid_unicode_utf8_first)] }
def LinDefiniteSaid : Prop := linDefiniteRow.holds Tryd.pinned (OpenSpec.ofChange linDefiniteSpec)

/-- ITS FALSE NEIGHBOUR: 'it returns false'. Refute it at one input. -/
def linDefiniteWrong : ChangeSpec := { name := "linDefinite", fn := fun _ => fun
  | [d1, d2] => { results := [.lit (.bool false)], args := [d1, d2] }
  | _ => none }
def LinDefiniteWrongFalsely : Prop := linDefiniteRow.holds Tryd.pinned (OpenSpec.ofChange linDefiniteWrong)

/-- 'gimballaw07.LinChain': WHATEVER THE INPUT: true; the input reads as it did. -/
def linChainSpec : ChangeSpec := { name := "linChain", fn := fun _ => fun
  | [d1, d2, d3, d4, d5] => { results := [.lit (.bool true)], args := [d1, d2, d3, d4, d5] }
  | _ => none }
def linChainRow : OpenClaim := { program := "ytolpfibihialkaadoor", sum := "b35aa1665171ee090f36882bd3994c10ccb0ee1825b97b33b52ee09557f0fb30", func := "gimbal/gimballaw07.LinChain", spec := "linChain", inPlace := ["internal/bytealg.IndexByteString", "internal/bytealg.IndexString"], unfollowed := true, recurses := true, named := ["unicode/utf8.first", "unicode/utf8.acceptRanges", "internal/bytealg.MaxLen"], apart := false, laid := [("unicode/utf8.acceptRanges", laid_unicode_utf8_acceptRanges), ("unicode/utf8.first", laid_unicode_utf8_first)] }
def LinChainSaid : Prop := linChainRow.holds Tryd.pinned (OpenSpec.ofChange linChainSpec)

/-- ITS FALSE NEIGHBOUR: 'it returns false'. Refute it at one input. -/
def linChainWrong : ChangeSpec := { name := "linChain", fn := fun _ => fun
  | [d1, d2, d3, d4, d5] => { results := [.lit (.bool false)], args := [d1, d2, d3, d4, d5] }
  | _ => none }
def LinChainWrongFalsely : Prop := linChainRow.holds Tryd.pinned (OpenSpec.ofChange linChainWrong)

/- THE SECOND FORM. 'bulk': how many values and letters a reading holds, each counted each time it is reached (what is shared counts as often as it is met; a slice's spare places count too). A statement '..UptoSaid' is the law's where the arguments, and the package variables that the reading takes, are together of bulk at most 1048576: NARROWER than '..Said'. Prove '..Said' where nothing that the law and all that it calls make is longer than what came in: it says more and counts as full. Else prove '..UptoSaid'. A law counts once. -/
mutual
def uptoBulk {H : Type} : DataW H → Nat
  | .lit (.string bytes) => bytes.length + 1
  | .lit _ => 1
  | .nil => 1
  | .ptr d => uptoBulk d + 1
  | .slice elems spare => uptoBulkAll elems + uptoBulkAll spare + 1
  | .agg parts => uptoBulkAll parts + 1
  | .iface _ d => uptoBulk d + 1
  | .map entries => uptoBulkEntries entries + 1
  | .held _ => 1
def uptoBulkAll {H : Type} : List (DataW H) → Nat
  | [] => 0
  | d :: r => uptoBulk d + uptoBulkAll r
def uptoBulkEntries {H : Type} : List (Lit × DataW H) → Nat
  | [] => 0
  | x :: r => uptoBulkEntry x + uptoBulkEntries r
def uptoBulkEntry {H : Type} : Lit × DataW H → Nat
  | (.string bytes, d) => bytes.length + uptoBulk d + 1
  | (_, d) => uptoBulk d + 1
 end
def uptoSmall : (H : Type) → List (DataW H) → Bool := fun _ ds => decide (uptoBulkAll ds ≤ 1048576)
def OpenSpec.upto (s : _root_.Go.ChangeSpec) : _root_.Go.OpenSpec := { _root_.Go.OpenSpec.ofChange s with cond := some uptoSmall }

/-- 'gimballaw07.LinMakes', WHERE WHAT IT READS IS OF BULK AT MOST 1048576: true; the input reads as it did. -/
def linMakesUptoRow : OpenClaim := { program := "ytolpfibihialkaadoor", sum := "b35aa1665171ee090f36882bd3994c10ccb0ee1825b97b33b52ee09557f0fb30", func := "gimbal/gimballaw07.LinMakes", spec := "linMakes", inPlace := ["internal/bytealg.IndexByteString", "internal/bytealg.IndexString"], unfollowed := true, recurses := true, named := ["unicode/utf8.first", "unicode/utf8.acceptRanges", "internal/bytealg.MaxLen"], apart := false, laid := [("unicode/utf8.acceptRanges", laid_unicode_utf8_acceptRanges), ("unicode/utf8.first", laid_unicode_utf8_first)], narrowed := true }
def LinMakesUptoSaid : Prop := linMakesUptoRow.holds Tryd.pinned (OpenSpec.upto linMakesSpec)

/-- 'gimballaw07.LinDets', WHERE WHAT IT READS IS OF BULK AT MOST 1048576: true; the input reads as it did. -/
def linDetsUptoRow : OpenClaim := { program := "ytolpfibihialkaadoor", sum := "b35aa1665171ee090f36882bd3994c10ccb0ee1825b97b33b52ee09557f0fb30", func := "gimbal/gimballaw07.LinDets", spec := "linDets", inPlace := ["internal/bytealg.IndexByteString", "internal/bytealg.IndexString"], unfollowed := true, recurses := true, named := ["unicode/utf8.first", "unicode/utf8.acceptRanges", "internal/bytealg.MaxLen"], apart := false, laid := [("unicode/utf8.acceptRanges", laid_unicode_utf8_acceptRanges), ("unicode/utf8.first", laid_unicode_utf8_first)], narrowed := true }
def LinDetsUptoSaid : Prop := linDetsUptoRow.holds Tryd.pinned (OpenSpec.upto linDetsSpec)

/-- 'gimballaw07.LinBack', WHERE WHAT IT READS IS OF BULK AT MOST 1048576: true; the input reads as it did. -/
def linBackUptoRow : OpenClaim := { program := "ytolpfibihialkaadoor", sum := "b35aa1665171ee090f36882bd3994c10ccb0ee1825b97b33b52ee09557f0fb30", func := "gimbal/gimballaw07.LinBack", spec := "linBack", inPlace := ["internal/bytealg.IndexByteString", "internal/bytealg.IndexString"], unfollowed := true, recurses := true, named := ["unicode/utf8.first", "unicode/utf8.acceptRanges", "internal/bytealg.MaxLen"], apart := false, laid := [("unicode/utf8.acceptRanges", laid_unicode_utf8_acceptRanges), ("unicode/utf8.first", laid_unicode_utf8_first)], narrowed := true }
def LinBackUptoSaid : Prop := linBackUptoRow.holds Tryd.pinned (OpenSpec.upto linBackSpec)

/-- 'gimballaw07.LinRules', WHERE WHAT IT READS IS OF BULK AT MOST 1048576: true; the input reads as it did. -/
def linRulesUptoRow : OpenClaim := { program := "ytolpfibihialkaadoor", sum := "b35aa1665171ee090f36882bd3994c10ccb0ee1825b97b33b52ee09557f0fb30", func := "gimbal/gimballaw07.LinRules", spec := "linRules", inPlace := ["internal/bytealg.IndexByteString", "internal/bytealg.IndexString"], unfollowed := true, recurses := true, named := ["unicode/utf8.first", "unicode/utf8.acceptRanges", "internal/bytealg.MaxLen"], apart := false, laid := [("unicode/utf8.acceptRanges", laid_unicode_utf8_acceptRanges), ("unicode/utf8.first", laid_unicode_utf8_first)], narrowed := true }
def LinRulesUptoSaid : Prop := linRulesUptoRow.holds Tryd.pinned (OpenSpec.upto linRulesSpec)

/-- 'gimballaw07.LinDefinite', WHERE WHAT IT READS IS OF BULK AT MOST 1048576: true; the input reads as it did. -/
def linDefiniteUptoRow : OpenClaim := { program := "ytolpfibihialkaadoor", sum := "b35aa1665171ee090f36882bd3994c10ccb0ee1825b97b33b52ee09557f0fb30", func := "gimbal/gimballaw07.LinDefinite", spec := "linDefinite", inPlace := ["internal/bytealg.IndexByteString", "internal/bytealg.IndexString"], unfollowed := true, recurses := true, named := ["unicode/utf8.first", "unicode/utf8.acceptRanges", "internal/bytealg.MaxLen"], apart := false, laid := [("unicode/utf8.acceptRanges", laid_unicode_utf8_acceptRanges), ("unicode/utf8.first", laid_unicode_utf8_first)], narrowed := true }
def LinDefiniteUptoSaid : Prop := linDefiniteUptoRow.holds Tryd.pinned (OpenSpec.upto linDefiniteSpec)

/-- 'gimballaw07.LinChain', WHERE WHAT IT READS IS OF BULK AT MOST 1048576: true; the input reads as it did. -/
def linChainUptoRow : OpenClaim := { program := "ytolpfibihialkaadoor", sum := "b35aa1665171ee090f36882bd3994c10ccb0ee1825b97b33b52ee09557f0fb30", func := "gimbal/gimballaw07.LinChain", spec := "linChain", inPlace := ["internal/bytealg.IndexByteString", "internal/bytealg.IndexString"], unfollowed := true, recurses := true, named := ["unicode/utf8.first", "unicode/utf8.acceptRanges", "internal/bytealg.MaxLen"], apart := false, laid := [("unicode/utf8.acceptRanges", laid_unicode_utf8_acceptRanges), ("unicode/utf8.first", laid_unicode_utf8_first)], narrowed := true }
def LinChainUptoSaid : Prop := linChainUptoRow.holds Tryd.pinned (OpenSpec.upto linChainSpec)

end Rows
end Go.Proofs.YtolpfibihialkaaDoor
