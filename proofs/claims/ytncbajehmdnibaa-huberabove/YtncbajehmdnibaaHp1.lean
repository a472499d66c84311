/- Parts of the proof. -/
import Derived.StillTail
import Derived.Deep.RegionHeld3
import Derived.KernelRfl
set_option linter.unusedSimpArgs false
set_option linter.unusedVariables false
/- A law for regions that draw their order: a head whose operations may come in any order, each shown once under an invariant that says what has been done, and a tail in one order. No statement of the seat is proved here. -/
namespace Go.Proofs.Ytncbajehmdnibaa
open Go
section
variable {P:Program} {ops:Array Oper} {md:Region.Mode}
/-- What has been done, and i. -/
def upd (L:Nat→Bool) (i:Nat):Nat→Bool:=fun j=>if j=i then true else L j
theorem upd_ne {L:Nat→Bool} {i j:Nat} (h:j ≠ i):upd L i j=L j:=by simp [upd,h]
end
end Go.Proofs.Ytncbajehmdnibaa

/- A law for regions that draw their order and whose operations' values are known ahead: each operation is shown once; what the world keeps is one invariant. No statement of the seat is proved here. -/
namespace Go.Proofs.Ytncbajehmdnibaa
open Go
def updV (u:Nat→Value) (i:Nat) (v:Value):Nat→Value:=fun j=>if j=i then v else u j
section
variable {P:Program} {ops:Array Oper} {md:Region.Mode}
end
section
variable {P:Program}
end
end Go.Proofs.Ytncbajehmdnibaa
