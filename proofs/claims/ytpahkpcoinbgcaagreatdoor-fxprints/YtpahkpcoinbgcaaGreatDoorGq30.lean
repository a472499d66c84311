/- Parts of the proof. -/
import Derived.Test.YtpahkpcoinbgcaaGreatDoorGq28
import Derived.Test.YtpahkpcoinbgcaaGreatDoorGq29
import Derived.Test.YtpahkpcoinbgcaaGreatDoorGq10
import Derived.Test.YtpahkpcoinbgcaaGreatDoorGq16
/- The document's fixed numbers: Div and Sqrt, whatever they are given. No statement of the seat is proved here. -/
namespace Go.Proofs.YtpahkpcoinbgcaaGreatDoor
open Go Go.RowKit
theorem e40 {z : Int} (h1 : -9223372036854775808000000 ≤ z) (h2 : z ≤ 9223372036854775807000000) : z.natAbs < 10 ^ 40 := by
 have : (10 : Nat) ^ 40 = 10000000000000000000000000000000000000000 := by decide
 omega
end Go.Proofs.YtpahkpcoinbgcaaGreatDoor
