/- Parts of the proof. -/
import Derived.Test.YtdochhhepmlapaaGe6
import Derived.Test.YtdochhhepmlapaaGe4
import Derived.Test.YtdochhhepmlapaaShelf
import Derived.Lib.Strings
/- The walk of written. -/
namespace Go.Proofs.Ytdochhhepmlapaa
open Go.RowKit
/-- The k-th digit, from the lowest one on. -/
def dig (N k : Nat) : Nat := N / 10 ^ k % 10
end Go.Proofs.Ytdochhhepmlapaa
