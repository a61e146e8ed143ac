/-
  THE WALKS of the document's Split, and of what holds shares against each other.
-/
import Derived.Test.YtkilphanbookkaaAp
namespace Go.Proofs.Ytkilphanbookkaa
open Go.RowKit
end Go.Proofs.Ytkilphanbookkaa
