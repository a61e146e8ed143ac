/-
  THE WALK of a mix, of the document's answer.
-/
import Derived.Test.YtoggibooinhomaaDoorAr
namespace Go.Proofs.YtoggibooinhomaaDoor
set_option linter.unusedVariables false
set_option linter.unusedSimpArgs false
open Go.RowKit
end Go.Proofs.YtoggibooinhomaaDoor
