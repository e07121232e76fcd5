/-
  The cards of PoolErrs and PoolPlays.
-/
import Derived.Test.YtnkcneccolbbdaaGreatDoorPkPlAl9
import Derived.Test.YtnkcneccolbbdaaGreatDoorPkPlAl15
set_option linter.unusedVariables false
set_option linter.unusedSimpArgs false

namespace Go.Proofs.YtnkcneccolbbdaaGreatDoor
theorem pool_two : True := trivial
end Go.Proofs.YtnkcneccolbbdaaGreatDoor
