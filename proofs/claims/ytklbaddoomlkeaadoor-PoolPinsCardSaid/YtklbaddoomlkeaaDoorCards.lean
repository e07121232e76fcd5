/-
  DERIVED. GIVEN WITH THE SEED: THE CARDS: each row of YtklbaddoomlkeaaDoorRows.lean that lists a variable, with what it lists TIED to the program's text (the seventh form; the later family's looks); each row that meets fmt, with fmt's text TOLD by the authors' own Lean function (tested against real Go, not proved from fmt's source: count such statements apart). THE CARD IS WHAT COUNTS. Prove the row's statement (the work); the ties are given (YtklbaddoomlkeaaDoorTie.lean); close each card by the builder's one call (the guide's Derived/Test/ToyasCard.lean, 'card_holds'). Laid BY PROGRAM, IN A SANDBOX (cutbox-door.mjs). By AI agents, Wed Nov 11 2026. No macro, syntax, notation, axiom, sorry.
-/
import Derived.Test.YtklbaddoomlkeaaDoorRows
import GoSem.ClaimSeven
namespace Go.Proofs.YtklbaddoomlkeaaDoor
namespace Rows

/-- THE TIED CARD OF 'munimentlaw11.PoolPins'. -/
def poolPinsCard : Claim7 := { stood := { row := poolPinsRow, standIns := [], harness := (true, "60879d10a6fede4408720915e4006677f648ad772ab39bde15b55f2aa86fe3a1"), looks := false }, kinds := [], alts := [], laidByText := true, laidKinds := [.data], laidTests := true, laidLooks := .later }
def PoolPinsCardSaid : Prop := Claim7.holds Tryd.pinned (.plain (OpenSpec.ofChange poolPinsSpec)) poolPinsCard

/-- THE TIED CARD OF 'munimentlaw11.PoolSteals'. -/
def poolStealsCard : Claim7 := { stood := { row := poolStealsRow, standIns := [], harness := (true, "60879d10a6fede4408720915e4006677f648ad772ab39bde15b55f2aa86fe3a1"), looks := false }, kinds := [], alts := [], laidByText := true, laidKinds := [.data], laidTests := true, laidLooks := .later }
def PoolStealsCardSaid : Prop := Claim7.holds Tryd.pinned (.plain (OpenSpec.ofChange poolStealsSpec)) poolStealsCard

/-- THE SECOND FORM's CARD OF 'munimentlaw11.PoolPins'. -/
def poolPinsUptoCard : Claim7 := { stood := { row := poolPinsUptoRow, standIns := [], harness := (true, "60879d10a6fede4408720915e4006677f648ad772ab39bde15b55f2aa86fe3a1"), looks := false }, kinds := [], alts := [], laidByText := true, laidKinds := [.data], laidTests := true, laidLooks := .later }
def PoolPinsUptoCardSaid : Prop := Claim7.holds Tryd.pinned (.plain (OpenSpec.upto poolPinsSpec)) poolPinsUptoCard

/-- THE SECOND FORM's CARD OF 'munimentlaw11.PoolSteals'. -/
def poolStealsUptoCard : Claim7 := { stood := { row := poolStealsUptoRow, standIns := [], harness := (true, "60879d10a6fede4408720915e4006677f648ad772ab39bde15b55f2aa86fe3a1"), looks := false }, kinds := [], alts := [], laidByText := true, laidKinds := [.data], laidTests := true, laidLooks := .later }
def PoolStealsUptoCardSaid : Prop := Claim7.holds Tryd.pinned (.plain (OpenSpec.upto poolStealsSpec)) poolStealsUptoCard
end Rows
end Go.Proofs.YtklbaddoomlkeaaDoor
