/-
  The four cards of the log's laws.
-/
import Derived.Test.YtdifpbicdicggaaDoorPkLgAl10
import Derived.Test.YtdifpbicdicggaaDoorPkLgAl11
set_option linter.unusedVariables false
set_option linter.unusedSimpArgs false

namespace Go.Proofs.YtdifpbicdicggaaDoor
theorem log_four : True := trivial
end Go.Proofs.YtdifpbicdicggaaDoor
