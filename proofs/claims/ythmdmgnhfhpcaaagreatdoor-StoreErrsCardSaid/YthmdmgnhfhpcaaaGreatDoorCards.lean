/-
  DERIVED. GIVEN WITH THE SEED: THE CARDS: each row of YthmdmgnhfhpcaaaGreatDoorRows.lean that lists a variable, with what it lists TIED to the program's text (the seventh form; the later family's looks); each row that meets fmt, with fmt's text TOLD by the authors' own Lean function (tested against real Go, not proved from fmt's source: count such statements apart). THE CARD IS WHAT COUNTS. Prove the row's statement (the work); the ties are given (YthmdmgnhfhpcaaaGreatDoorTie.lean); close each card by the builder's one call (the guide's Derived/Test/ToyasCard.lean, 'card_holds'). Laid BY PROGRAM, IN A SANDBOX (cutbox-door.mjs). By AI agents, Wed Nov 11 2026. No macro, syntax, notation, axiom, sorry.
-/
import Derived.Test.YthmdmgnhfhpcaaaGreatDoorRows
import GoSem.ClaimSeven
namespace Go.Proofs.YthmdmgnhfhpcaaaGreatDoor
namespace Rows

/-- THE TIED CARD OF 'munimentlaw12.StoreErrs'. -/
def storeErrsCard : Claim7 := { stood := { row := storeErrsRow, standIns := [], harness := (true, "dcddeb62ef7ba6a9b9eaba2870bb39ef60e4f8843518aa220ff18b45b856705f"), looks := false }, kinds := [], alts := [], laidByText := true, laidKinds := [.data], laidTests := true, laidLooks := .later }
def StoreErrsCardSaid : Prop := Claim7.holds Tryz.pinned (.plain (OpenSpec.ofChange storeErrsSpec)) storeErrsCard

/-- THE TIED CARD OF 'munimentlaw12.StoreChecks'. -/
def storeChecksCard : Claim7 := { stood := { row := storeChecksRow, standIns := [], harness := (true, "dcddeb62ef7ba6a9b9eaba2870bb39ef60e4f8843518aa220ff18b45b856705f"), looks := false }, kinds := [], alts := [], laidByText := true, laidKinds := [.data], laidTests := true, laidLooks := .later }
def StoreChecksCardSaid : Prop := Claim7.holds Tryz.pinned (.plain (OpenSpec.ofChange storeChecksSpec)) storeChecksCard

/-- THE SECOND FORM's CARD OF 'munimentlaw12.StoreErrs'. -/
def storeErrsUptoCard : Claim7 := { stood := { row := storeErrsUptoRow, standIns := [], harness := (true, "dcddeb62ef7ba6a9b9eaba2870bb39ef60e4f8843518aa220ff18b45b856705f"), looks := false }, kinds := [], alts := [], laidByText := true, laidKinds := [.data], laidTests := true, laidLooks := .later }
def StoreErrsUptoCardSaid : Prop := Claim7.holds Tryz.pinned (.plain (OpenSpec.upto storeErrsSpec)) storeErrsUptoCard

/-- THE SECOND FORM's CARD OF 'munimentlaw12.StoreChecks'. -/
def storeChecksUptoCard : Claim7 := { stood := { row := storeChecksUptoRow, standIns := [], harness := (true, "dcddeb62ef7ba6a9b9eaba2870bb39ef60e4f8843518aa220ff18b45b856705f"), looks := false }, kinds := [], alts := [], laidByText := true, laidKinds := [.data], laidTests := true, laidLooks := .later }
def StoreChecksUptoCardSaid : Prop := Claim7.holds Tryz.pinned (.plain (OpenSpec.upto storeChecksSpec)) storeChecksUptoCard
end Rows
end Go.Proofs.YthmdmgnhfhpcaaaGreatDoor
