/- Parts of the proof. -/
import Derived.Test.YtolpfibihialkaaGreatDoorGq6
import Derived.Test.YtolpfibihialkaaGreatDoorGq7
/- The walk of written. -/
namespace Go.Proofs.YtolpfibihialkaaGreatDoor
open Go.RowKit
theorem Tryz.u97 : Tryz.prog.underlying 97 = some (.slice 5) := by kernel_rfl
theorem Tryz.info5 : (Tryz.prog.info? 5).map (fun i => (i.zero, i.size, i.bytes)) = some (some (.int .u8 0), 1, 1) := by kernel_rfl
/-- The k-th digit, from the lowest one on. -/
def dig (N k : Nat) : Nat := N / 10 ^ k % 10
theorem dig_lt (N k : Nat) : dig N k < 10 := Nat.mod_lt _ (by decide)
end Go.Proofs.YtolpfibihialkaaGreatDoor
