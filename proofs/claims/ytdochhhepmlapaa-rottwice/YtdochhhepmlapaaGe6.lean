/- Parts of the proof. -/
import Derived.Test.YtdochhhepmlapaaGe5
import Derived.Deep.LoopGhost
/- The walk of groupsOf. -/
namespace Go.Proofs.Ytdochhhepmlapaa
open Go.RowKit
theorem Lie.congr {k : IntKind} {w : World} {a : Option Addr} {n c : Nat} {f f' : Nat → Nat} (h : Lie k w a n c f) (hf : ∀ i, i < n → f i = f' i) : Lie k w a n c f' :=
 ⟨h.cap, h.capm, h.nil, h.spot, fun p hp i hi => by rw [← hf i hi]; exact h.cell p hp i hi⟩
end Go.Proofs.Ytdochhhepmlapaa
