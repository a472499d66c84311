/- Parts of the proof. -/
import Derived.Test.YtpahkpcoinbgcaaGreatDoorGq17
import Derived.Test.YtpahkpcoinbgcaaGreatDoorGq3
/- The walk of written. -/
namespace Go.Proofs.YtpahkpcoinbgcaaGreatDoor
open Go.RowKit
theorem Tryz.u91 : Tryz.prog.underlying 91 = some (.slice 5) := by kernel_rfl
theorem Tryz.info5 : (Tryz.prog.info? 5).map (fun i => (i.zero, i.size, i.bytes)) = some (some (.int .u8 0), 1, 1) := by kernel_rfl
/-- The k-th digit, from the lowest one on. -/
def dig (N k : Nat) : Nat := N / 10 ^ k % 10
theorem dig_lt (N k : Nat) : dig N k < 10 := Nat.mod_lt _ (by decide)
end Go.Proofs.YtpahkpcoinbgcaaGreatDoor
