/-
  DERIVED. GIVEN WITH THE SEED: THE CARDS: each row of YtdifpbicdicggaaDoorRows.lean that lists a variable, with what it lists TIED to the program's text (the seventh form; the later family's looks); each row that meets fmt, with fmt's text TOLD by the authors' own Lean function (tested against real Go, not proved from fmt's source: count such statements apart). THE CARD IS WHAT COUNTS. Prove the row's statement (the work); the ties are given (YtdifpbicdicggaaDoorTie.lean); close each card by the builder's one call (the guide's Derived/Test/ToyasCard.lean, 'card_holds'). Laid BY PROGRAM, IN A SANDBOX (cutbox-door.mjs). By AI agents, Wed Nov 11 2026. No macro, syntax, notation, axiom, sorry.
-/
import Derived.Test.YtdifpbicdicggaaDoorRows
import GoSem.ClaimSeven
namespace Go.Proofs.YtdifpbicdicggaaDoor
namespace Rows

/-- THE TIED CARD OF 'munimentlaw09.LogCrashes'. -/
def logCrashesCard : Claim7 := { stood := { row := logCrashesRow, standIns := [], harness := (true, "4f4c97f2ea0bf7f80dce1e2a080954171ee31be8a04fab16634520b64de6de03"), looks := false }, kinds := [], alts := [], laidByText := true, laidKinds := [.data], laidTests := true, laidLooks := .later }
def LogCrashesCardSaid : Prop := Claim7.holds Tryd.pinned (.plain (OpenSpec.ofChange logCrashesSpec)) logCrashesCard

/-- THE TIED CARD OF 'munimentlaw09.LogErrs'. -/
def logErrsCard : Claim7 := { stood := { row := logErrsRow, standIns := [], harness := (true, "4f4c97f2ea0bf7f80dce1e2a080954171ee31be8a04fab16634520b64de6de03"), looks := false }, kinds := [], alts := [], laidByText := true, laidKinds := [.data], laidTests := true, laidLooks := .later }
def LogErrsCardSaid : Prop := Claim7.holds Tryd.pinned (.plain (OpenSpec.ofChange logErrsSpec)) logErrsCard

/-- THE TIED CARD OF 'munimentlaw09.LogRings'. -/
def logRingsCard : Claim7 := { stood := { row := logRingsRow, standIns := [], harness := (true, "4f4c97f2ea0bf7f80dce1e2a080954171ee31be8a04fab16634520b64de6de03"), looks := false }, kinds := [], alts := [], laidByText := true, laidKinds := [.data], laidTests := true, laidLooks := .later }
def LogRingsCardSaid : Prop := Claim7.holds Tryd.pinned (.plain (OpenSpec.ofChange logRingsSpec)) logRingsCard

/-- THE TIED CARD OF 'munimentlaw09.LogHeld'. -/
def logHeldCard : Claim7 := { stood := { row := logHeldRow, standIns := [], harness := (true, "4f4c97f2ea0bf7f80dce1e2a080954171ee31be8a04fab16634520b64de6de03"), looks := false }, kinds := [], alts := [], laidByText := true, laidKinds := [.data], laidTests := true, laidLooks := .later }
def LogHeldCardSaid : Prop := Claim7.holds Tryd.pinned (.plain (OpenSpec.ofChange logHeldSpec)) logHeldCard

/-- THE SECOND FORM's CARD OF 'munimentlaw09.LogCrashes'. -/
def logCrashesUptoCard : Claim7 := { stood := { row := logCrashesUptoRow, standIns := [], harness := (true, "4f4c97f2ea0bf7f80dce1e2a080954171ee31be8a04fab16634520b64de6de03"), looks := false }, kinds := [], alts := [], laidByText := true, laidKinds := [.data], laidTests := true, laidLooks := .later }
def LogCrashesUptoCardSaid : Prop := Claim7.holds Tryd.pinned (.plain (OpenSpec.upto logCrashesSpec)) logCrashesUptoCard

/-- THE SECOND FORM's CARD OF 'munimentlaw09.LogErrs'. -/
def logErrsUptoCard : Claim7 := { stood := { row := logErrsUptoRow, standIns := [], harness := (true, "4f4c97f2ea0bf7f80dce1e2a080954171ee31be8a04fab16634520b64de6de03"), looks := false }, kinds := [], alts := [], laidByText := true, laidKinds := [.data], laidTests := true, laidLooks := .later }
def LogErrsUptoCardSaid : Prop := Claim7.holds Tryd.pinned (.plain (OpenSpec.upto logErrsSpec)) logErrsUptoCard

/-- THE SECOND FORM's CARD OF 'munimentlaw09.LogRings'. -/
def logRingsUptoCard : Claim7 := { stood := { row := logRingsUptoRow, standIns := [], harness := (true, "4f4c97f2ea0bf7f80dce1e2a080954171ee31be8a04fab16634520b64de6de03"), looks := false }, kinds := [], alts := [], laidByText := true, laidKinds := [.data], laidTests := true, laidLooks := .later }
def LogRingsUptoCardSaid : Prop := Claim7.holds Tryd.pinned (.plain (OpenSpec.upto logRingsSpec)) logRingsUptoCard

/-- THE SECOND FORM's CARD OF 'munimentlaw09.LogHeld'. -/
def logHeldUptoCard : Claim7 := { stood := { row := logHeldUptoRow, standIns := [], harness := (true, "4f4c97f2ea0bf7f80dce1e2a080954171ee31be8a04fab16634520b64de6de03"), looks := false }, kinds := [], alts := [], laidByText := true, laidKinds := [.data], laidTests := true, laidLooks := .later }
def LogHeldUptoCardSaid : Prop := Claim7.holds Tryd.pinned (.plain (OpenSpec.upto logHeldSpec)) logHeldUptoCard
end Rows
end Go.Proofs.YtdifpbicdicggaaDoor
