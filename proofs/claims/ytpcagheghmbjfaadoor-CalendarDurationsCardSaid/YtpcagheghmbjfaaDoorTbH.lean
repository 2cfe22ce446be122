/-
  The program's IsName, IsCode and IsAirport, at every string.
-/
import Derived.Test.YtpcagheghmbjfaaDoorTbG
set_option linter.unusedVariables false
set_option linter.unusedSimpArgs false
namespace Go.Proofs.YtpcagheghmbjfaaDoor
open Go.RowKit
end Go.Proofs.YtpcagheghmbjfaaDoor

