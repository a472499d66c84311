/- Nothing of the library is needed here. -/
import Derived.Test.YtncbajehmdnibaaProg
namespace Go.Proofs
end Go.Proofs
