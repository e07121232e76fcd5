/-
  DERIVED. GIVEN WITH THE SEED: THE CARDS: each row of YtnkcneccolbbdaaGreatDoorRows.lean that lists a variable, with what it lists TIED to the program's text (the seventh form; the later family's looks); each row that meets fmt, with fmt's text TOLD by the authors' own Lean function (tested against real Go, not proved from fmt's source: count such statements apart). THE CARD IS WHAT COUNTS. Prove the row's statement (the work); the ties are given (YtnkcneccolbbdaaGreatDoorTie.lean); close each card by the builder's one call (the guide's Derived/Test/ToyasCard.lean, 'card_holds'). Laid BY PROGRAM, IN A SANDBOX (cutbox-door.mjs). By AI agents, Wed Nov 11 2026. No macro, syntax, notation, axiom, sorry.
-/
import Derived.Test.YtnkcneccolbbdaaGreatDoorRows
import GoSem.ClaimSeven
namespace Go.Proofs.YtnkcneccolbbdaaGreatDoor
namespace Rows

/-- THE TIED CARD OF 'munimentlaw11.PoolPlays'. -/
def poolPlaysCard : Claim7 := { stood := { row := poolPlaysRow, standIns := [], harness := (true, "9cf7a9772471ca4a9fe661c79adf4569b12b305a5c8344199038e8261fb2881e"), looks := false }, kinds := [], alts := [], laidByText := true, laidKinds := [.data], laidTests := true, laidLooks := .later }
def PoolPlaysCardSaid : Prop := Claim7.holds Tryz.pinned (.plain (OpenSpec.ofChange poolPlaysSpec)) poolPlaysCard

/-- THE TIED CARD OF 'munimentlaw11.PoolErrs'. -/
def poolErrsCard : Claim7 := { stood := { row := poolErrsRow, standIns := [], harness := (true, "9cf7a9772471ca4a9fe661c79adf4569b12b305a5c8344199038e8261fb2881e"), looks := false }, kinds := [], alts := [], laidByText := true, laidKinds := [.data], laidTests := true, laidLooks := .later }
def PoolErrsCardSaid : Prop := Claim7.holds Tryz.pinned (.plain (OpenSpec.ofChange poolErrsSpec)) poolErrsCard

/-- THE SECOND FORM's CARD OF 'munimentlaw11.PoolPlays'. -/
def poolPlaysUptoCard : Claim7 := { stood := { row := poolPlaysUptoRow, standIns := [], harness := (true, "9cf7a9772471ca4a9fe661c79adf4569b12b305a5c8344199038e8261fb2881e"), looks := false }, kinds := [], alts := [], laidByText := true, laidKinds := [.data], laidTests := true, laidLooks := .later }
def PoolPlaysUptoCardSaid : Prop := Claim7.holds Tryz.pinned (.plain (OpenSpec.upto poolPlaysSpec)) poolPlaysUptoCard

/-- THE SECOND FORM's CARD OF 'munimentlaw11.PoolErrs'. -/
def poolErrsUptoCard : Claim7 := { stood := { row := poolErrsUptoRow, standIns := [], harness := (true, "9cf7a9772471ca4a9fe661c79adf4569b12b305a5c8344199038e8261fb2881e"), looks := false }, kinds := [], alts := [], laidByText := true, laidKinds := [.data], laidTests := true, laidLooks := .later }
def PoolErrsUptoCardSaid : Prop := Claim7.holds Tryz.pinned (.plain (OpenSpec.upto poolErrsSpec)) poolErrsUptoCard
end Rows
end Go.Proofs.YtnkcneccolbbdaaGreatDoor
