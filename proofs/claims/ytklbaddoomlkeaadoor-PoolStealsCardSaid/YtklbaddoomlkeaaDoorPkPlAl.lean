/-
  The cards of PoolPins and PoolSteals.
-/
import Derived.Test.YtklbaddoomlkeaaDoorPkPlAl8
import Derived.Test.YtklbaddoomlkeaaDoorPkPlAl10
set_option linter.unusedVariables false
set_option linter.unusedSimpArgs false

namespace Go.Proofs.YtklbaddoomlkeaaDoor
theorem pool_two : True := trivial
end Go.Proofs.YtklbaddoomlkeaaDoor
