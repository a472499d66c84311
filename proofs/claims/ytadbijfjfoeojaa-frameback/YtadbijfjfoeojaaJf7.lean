/- Parts of the proof. -/
import Derived.Test.YtadbijfjfoeojaaJf6
import Derived.Test.YtadbijfjfoeojaaJf2
set_option linter.unusedSimpArgs false
set_option linter.unusedVariables false
/- The walk of written. -/
namespace Go.Proofs.Ytadbijfjfoeojaa
open Go.RowKit
/-- The k-th digit, from the lowest one on. -/
def dig (N k:Nat):Nat:=N / 10 ^ k % 10
end Go.Proofs.Ytadbijfjfoeojaa
