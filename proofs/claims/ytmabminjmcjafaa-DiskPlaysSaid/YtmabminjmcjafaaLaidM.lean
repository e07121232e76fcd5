/-
  A world for the witness, where no variable is listed.
-/
import Derived.Test.YtmabminjmcjafaaLawM
namespace Go.Proofs.Ytmabminjmcjafaa
open Go.RowKit

/-- A world for the witness. -/
noncomputable def laidWorld (os : Os) : World := World.laidAll Try.prog os []
theorem laidWorld_met (os : Os) (args : Array Value) : laidMet Try.prog [] ((laidWorld os).forCall (fun _ _ => 0) ⟨#[], args, []⟩).memory :=
  laidMet_laidAll args (by kernel_rfl) (by kernel_rfl)
theorem laidWorld_os (os : Os) : (laidWorld os).os = os := World.laidAll_os _ _ _
end Go.Proofs.Ytmabminjmcjafaa
