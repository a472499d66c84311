/- Parts of the proof. -/
import Derived.Test.YtolpfibihialkaaGreatGr6
import Derived.Test.YtolpfibihialkaaGreatGr4
import Derived.Test.YtolpfibihialkaaGreatShelf
import Derived.Lib.Strings
/- The walk of written. -/
namespace Go.Proofs.YtolpfibihialkaaGreat
open Go.RowKit
/-- The k-th digit, from the lowest one on. -/
def dig (N k : Nat) : Nat := N / 10 ^ k % 10
theorem dig_lt (N k : Nat) : dig N k < 10 := Nat.mod_lt _ (by decide)
end Go.Proofs.YtolpfibihialkaaGreat
