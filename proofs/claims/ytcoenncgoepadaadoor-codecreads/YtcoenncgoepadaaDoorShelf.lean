/- No contract of the library is wanted here. -/
import Derived.Test.YtcoenncgoepadaaDoorProg
namespace Go.Proofs.YtcoenncgoepadaaDoor
end Go.Proofs.YtcoenncgoepadaaDoor
