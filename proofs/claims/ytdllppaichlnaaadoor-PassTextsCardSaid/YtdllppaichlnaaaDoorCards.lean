/-
  DERIVED. GIVEN WITH THE SEED: THE CARDS: each row of YtdllppaichlnaaaDoorRows.lean that lists a variable, with what it lists TIED to the program's text (the seventh form; the later family's looks); each row that meets fmt, with fmt's text TOLD by the authors' own Lean function (tested against real Go, not proved from fmt's source: count such statements apart). THE CARD IS WHAT COUNTS. Prove the row's statement (the work); the ties are given (YtdllppaichlnaaaDoorTie.lean); close each card by the builder's one call (the guide's Derived/Test/ToyasCard.lean, 'card_holds'). Laid BY PROGRAM, IN A SANDBOX (cutbox-door.mjs). By AI agents, Wed Nov 11 2026. No macro, syntax, notation, axiom, sorry.
-/
import Derived.Test.YtdllppaichlnaaaDoorRows
import GoSem.ClaimSeven
namespace Go.Proofs.YtdllppaichlnaaaDoor
namespace Rows

/-- THE TIED CARD OF 'munimentlaw18.PassMakes'. -/
def passMakesCard : Claim7 := { stood := { row := passMakesRow, standIns := [], harness := (true, "117a8f48f3bb7707c1805d9a116641fd8352a019f42a78a2b69642c89229c974"), looks := false }, kinds := [], alts := [], laidByText := true, laidKinds := [.data, .data], laidTests := true, laidLooks := .later }
def PassMakesCardSaid : Prop := Claim7.holds Tryd.pinned (.plain (OpenSpec.ofChange passMakesSpec)) passMakesCard

/-- THE TIED CARD OF 'munimentlaw18.PassChecks'. -/
def passChecksCard : Claim7 := { stood := { row := passChecksRow, standIns := [], harness := (true, "117a8f48f3bb7707c1805d9a116641fd8352a019f42a78a2b69642c89229c974"), looks := false }, kinds := [], alts := [], laidByText := true, laidKinds := [.data, .data], laidTests := true, laidLooks := .later }
def PassChecksCardSaid : Prop := Claim7.holds Tryd.pinned (.plain (OpenSpec.ofChange passChecksSpec)) passChecksCard

/-- THE TIED CARD OF 'munimentlaw18.PassTexts'. -/
def passTextsCard : Claim7 := { stood := { row := passTextsRow, standIns := [], harness := (true, "117a8f48f3bb7707c1805d9a116641fd8352a019f42a78a2b69642c89229c974"), looks := false }, kinds := [], alts := [], laidByText := true, laidKinds := [.data, .data], laidTests := true, laidLooks := .later }
def PassTextsCardSaid : Prop := Claim7.holds Tryd.pinned (.plain (OpenSpec.ofChange passTextsSpec)) passTextsCard

/-- THE TIED CARD OF 'munimentlaw18.PassSalts'. -/
def passSaltsCard : Claim7 := { stood := { row := passSaltsRow, standIns := [], harness := (true, "117a8f48f3bb7707c1805d9a116641fd8352a019f42a78a2b69642c89229c974"), looks := false }, kinds := [], alts := [], laidByText := true, laidKinds := [.data, .data], laidTests := true, laidLooks := .later }
def PassSaltsCardSaid : Prop := Claim7.holds Tryd.pinned (.plain (OpenSpec.ofChange passSaltsSpec)) passSaltsCard

/-- THE TIED CARD OF 'munimentlaw18.PassRounds'. -/
def passRoundsCard : Claim7 := { stood := { row := passRoundsRow, standIns := [], harness := (true, "117a8f48f3bb7707c1805d9a116641fd8352a019f42a78a2b69642c89229c974"), looks := false }, kinds := [], alts := [], laidByText := true, laidKinds := [.data, .data], laidTests := true, laidLooks := .later }
def PassRoundsCardSaid : Prop := Claim7.holds Tryd.pinned (.plain (OpenSpec.ofChange passRoundsSpec)) passRoundsCard

/-- THE SECOND FORM's CARD OF 'munimentlaw18.PassMakes'. -/
def passMakesUptoCard : Claim7 := { stood := { row := passMakesUptoRow, standIns := [], harness := (true, "117a8f48f3bb7707c1805d9a116641fd8352a019f42a78a2b69642c89229c974"), looks := false }, kinds := [], alts := [], laidByText := true, laidKinds := [.data, .data], laidTests := true, laidLooks := .later }
def PassMakesUptoCardSaid : Prop := Claim7.holds Tryd.pinned (.plain (OpenSpec.upto passMakesSpec)) passMakesUptoCard

/-- THE SECOND FORM's CARD OF 'munimentlaw18.PassChecks'. -/
def passChecksUptoCard : Claim7 := { stood := { row := passChecksUptoRow, standIns := [], harness := (true, "117a8f48f3bb7707c1805d9a116641fd8352a019f42a78a2b69642c89229c974"), looks := false }, kinds := [], alts := [], laidByText := true, laidKinds := [.data, .data], laidTests := true, laidLooks := .later }
def PassChecksUptoCardSaid : Prop := Claim7.holds Tryd.pinned (.plain (OpenSpec.upto passChecksSpec)) passChecksUptoCard

/-- THE SECOND FORM's CARD OF 'munimentlaw18.PassTexts'. -/
def passTextsUptoCard : Claim7 := { stood := { row := passTextsUptoRow, standIns := [], harness := (true, "117a8f48f3bb7707c1805d9a116641fd8352a019f42a78a2b69642c89229c974"), looks := false }, kinds := [], alts := [], laidByText := true, laidKinds := [.data, .data], laidTests := true, laidLooks := .later }
def PassTextsUptoCardSaid : Prop := Claim7.holds Tryd.pinned (.plain (OpenSpec.upto passTextsSpec)) passTextsUptoCard

/-- THE SECOND FORM's CARD OF 'munimentlaw18.PassSalts'. -/
def passSaltsUptoCard : Claim7 := { stood := { row := passSaltsUptoRow, standIns := [], harness := (true, "117a8f48f3bb7707c1805d9a116641fd8352a019f42a78a2b69642c89229c974"), looks := false }, kinds := [], alts := [], laidByText := true, laidKinds := [.data, .data], laidTests := true, laidLooks := .later }
def PassSaltsUptoCardSaid : Prop := Claim7.holds Tryd.pinned (.plain (OpenSpec.upto passSaltsSpec)) passSaltsUptoCard

/-- THE SECOND FORM's CARD OF 'munimentlaw18.PassRounds'. -/
def passRoundsUptoCard : Claim7 := { stood := { row := passRoundsUptoRow, standIns := [], harness := (true, "117a8f48f3bb7707c1805d9a116641fd8352a019f42a78a2b69642c89229c974"), looks := false }, kinds := [], alts := [], laidByText := true, laidKinds := [.data, .data], laidTests := true, laidLooks := .later }
def PassRoundsUptoCardSaid : Prop := Claim7.holds Tryd.pinned (.plain (OpenSpec.upto passRoundsSpec)) passRoundsUptoCard
end Rows
end Go.Proofs.YtdllppaichlnaaaDoor
