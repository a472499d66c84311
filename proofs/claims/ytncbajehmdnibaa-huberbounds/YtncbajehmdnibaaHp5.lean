/- Parts of the proof. -/
import Derived.Test.YtncbajehmdnibaaHp4
import Derived.Test.YtncbajehmdnibaaProg
import Derived.Test.YtncbajehmdnibaaHp2
import Derived.KernelRfl
import Derived.Test.YtncbajehmdnibaaShelf
import Derived.Lib.Strings
set_option linter.unusedSimpArgs false
set_option linter.unusedVariables false
/- The walk of written. -/
namespace Go.Proofs.Ytncbajehmdnibaa
open Go.RowKit
/-- The k-th digit, from the lowest one on. -/
def dig (N k:Nat):Nat:=N / 10 ^ k % 10
end Go.Proofs.Ytncbajehmdnibaa
