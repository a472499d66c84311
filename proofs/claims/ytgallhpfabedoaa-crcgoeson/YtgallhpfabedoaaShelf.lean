/- Nothing: the parts import it. -/
import Derived.Test.YtgallhpfabedoaaProg
namespace Go.Proofs
end Go.Proofs
