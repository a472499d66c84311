/- Parts of the proof. -/
import Derived.Test.YtcoenncgoepadaaDoorProg
import Derived.Test.YtcoenncgoepadaaDoorJg2
import Derived.KernelRfl
import Derived.Laws.BitsAllLaws
set_option linter.unusedSimpArgs false
set_option linter.unusedVariables false
/- The walk of guessed. -/
namespace Go.Proofs.YtcoenncgoepadaaDoor
open Go.RowKit
/-- What is known of the upper parts: D has tp, nx at its head, R has H, r2. -/
structure Heads (R D tp nx H r2:Nat):Prop where
 top:1≤tp
 qlt:R / D < 4294967296
 k1:R / D*(tp*4294967296+nx)≤H*4294967296+r2
 k2:H*4294967296+r2 < (R / D+1)*(tp*4294967296+nx+1)
 nxl:nx < 4294967296
 r2l:r2 < 4294967296
end Go.Proofs.YtcoenncgoepadaaDoor

/- The walks of raised and lowered. -/
namespace Go.Proofs.YtcoenncgoepadaaDoor
open Go.RowKit
/-- What is carried when a number is raised by s binary digits. -/
def rc (N s k:Nat):Nat:=N % BB ^ k*2 ^ s / BB ^ k
end Go.Proofs.YtcoenncgoepadaaDoor
