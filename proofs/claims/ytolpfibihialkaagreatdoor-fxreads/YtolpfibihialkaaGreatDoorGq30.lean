/- Parts of the proof. -/
import Derived.Test.YtolpfibihialkaaGreatDoorGq22
import Derived.Test.YtolpfibihialkaaGreatDoorGq29
import Derived.Test.YtolpfibihialkaaGreatDoorGq19
import Derived.Test.YtolpfibihialkaaGreatDoorGq27
/- The document's fixed numbers: the walks of Div and Sqrt. No statement of the seat is proved here. -/
namespace Go.Proofs.YtolpfibihialkaaGreatDoor
open Go Go.RowKit
end Go.Proofs.YtolpfibihialkaaGreatDoor

/- The document's fixed numbers: Div and Sqrt, whatever they are given. No statement of the seat is proved here. -/
namespace Go.Proofs.YtolpfibihialkaaGreatDoor
open Go Go.RowKit
theorem dOne : ∀ W : World, Calls Tryz.prog 39 #[] W (PN 1048576 W) := fun W =>
 (rone_any W).mono fun _ _ ⟨b, a, n, c, e, g, _, hB⟩ => ⟨⟨b, a, n, c, _⟩, rfl, e, g, hB⟩
end Go.Proofs.YtolpfibihialkaaGreatDoor
