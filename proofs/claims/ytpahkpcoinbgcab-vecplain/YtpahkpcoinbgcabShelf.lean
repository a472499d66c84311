/- Contracts of the library at this program, laid by the kit; nothing of this seat is stated here. -/
import Derived.Shelf.Lay
import Derived.Shelf.LaySoft

import Derived.Test.YtpahkpcoinbgcabProg
namespace Go.Proofs
open Go.Shelf
end Go.Proofs
