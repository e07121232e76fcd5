/-
  DERIVED. GIVEN WITH THE SEED: THE CARDS: each row of YtakibimkkgcneaaDoorRows.lean that lists a variable, with what it lists TIED to the program's text (the seventh form; the later family's looks); each row that meets fmt, with fmt's text TOLD by the authors' own Lean function (tested against real Go, not proved from fmt's source: count such statements apart). THE CARD IS WHAT COUNTS. Prove the row's statement (the work); the ties are given (YtakibimkkgcneaaDoorTie.lean); close each card by the builder's one call (the guide's Derived/Test/ToyasCard.lean, 'card_holds'). Laid BY PROGRAM, IN A SANDBOX (cutbox-door.mjs). By AI agents, Wed Nov 11 2026. No macro, syntax, notation, axiom, sorry.
-/
import Derived.Test.YtakibimkkgcneaaDoorRows
import GoSem.ClaimSeven
namespace Go.Proofs.YtakibimkkgcneaaDoor
namespace Rows

/-- THE TIED CARD OF 'munimentlaw06.RolesWords'. -/
def rolesWordsCard : Claim7 := { stood := { row := rolesWordsRow, standIns := [], harness := (true, "361a298349046db4f8cb7c6ddce28d829d544390a5436c97ca846f1ebb5db289"), looks := false }, kinds := [], alts := [], laidByText := true, laidKinds := [.data], laidTests := true, laidLooks := .later }
def RolesWordsCardSaid : Prop := Claim7.holds Tryd.pinned (.plain (OpenSpec.ofChange rolesWordsSpec)) rolesWordsCard

/-- THE SECOND FORM's CARD OF 'munimentlaw06.RolesWords'. -/
def rolesWordsUptoCard : Claim7 := { stood := { row := rolesWordsUptoRow, standIns := [], harness := (true, "361a298349046db4f8cb7c6ddce28d829d544390a5436c97ca846f1ebb5db289"), looks := false }, kinds := [], alts := [], laidByText := true, laidKinds := [.data], laidTests := true, laidLooks := .later }
def RolesWordsUptoCardSaid : Prop := Claim7.holds Tryd.pinned (.plain (OpenSpec.upto rolesWordsSpec)) rolesWordsUptoCard
end Rows
end Go.Proofs.YtakibimkkgcneaaDoor
