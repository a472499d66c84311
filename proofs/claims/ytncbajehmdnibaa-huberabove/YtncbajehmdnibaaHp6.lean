/- Parts of the proof. -/
import Derived.Test.YtncbajehmdnibaaProg
import Derived.Test.YtncbajehmdnibaaHp2
import Derived.KernelRfl
import Derived.Laws.BitsAllLaws
set_option linter.unusedSimpArgs false
set_option linter.unusedVariables false
/- The walks of raised and lowered. -/
namespace Go.Proofs.Ytncbajehmdnibaa
open Go.RowKit
/-- What is carried when a number is raised by s binary digits. -/
def rc (N s k:Nat):Nat:=N % BB ^ k*2 ^ s / BB ^ k
end Go.Proofs.Ytncbajehmdnibaa
