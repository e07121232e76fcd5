/-
  DERIVED. GIVEN WITH THE SEED: THE CARDS: each row of YtakmkcfljhfkdaaDoorRows.lean that lists a variable, with what it lists TIED to the program's text (the seventh form; the later family's looks); each row that meets fmt, with fmt's text TOLD by the authors' own Lean function (tested against real Go, not proved from fmt's source: count such statements apart). THE CARD IS WHAT COUNTS. Prove the row's statement (the work); the ties are given (YtakmkcfljhfkdaaDoorTie.lean); close each card by the builder's one call (the guide's Derived/Test/ToyasCard.lean, 'card_holds'). Laid BY PROGRAM, IN A SANDBOX (cutbox-door.mjs). By AI agents, Wed Nov 11 2026. No macro, syntax, notation, axiom, sorry.
-/
import Derived.Test.YtakmkcfljhfkdaaDoorRows
import GoSem.ClaimSeven
namespace Go.Proofs.YtakmkcfljhfkdaaDoor
namespace Rows

/-- THE TIED CARD OF 'munimentlaw02.OctetNumbers'. -/
def octetNumbersCard : Claim7 := { stood := { row := octetNumbersRow, standIns := [], harness := (true, "939b30648e2aca110d662888e3815f6bd1c85681e8eaca5dfde624e6149f3f5c"), looks := false }, kinds := [], alts := [], laidByText := true, laidKinds := [.data], laidTests := true, laidLooks := .later }
def OctetNumbersCardSaid : Prop := Claim7.holds Tryd.pinned (.plain (OpenSpec.ofChange octetNumbersSpec)) octetNumbersCard

/-- THE TIED CARD OF 'munimentlaw02.OctetReads'. -/
def octetReadsCard : Claim7 := { stood := { row := octetReadsRow, standIns := [], harness := (true, "939b30648e2aca110d662888e3815f6bd1c85681e8eaca5dfde624e6149f3f5c"), looks := false }, kinds := [], alts := [], laidByText := true, laidKinds := [.data], laidTests := true, laidLooks := .later }
def OctetReadsCardSaid : Prop := Claim7.holds Tryd.pinned (.plain (OpenSpec.ofChange octetReadsSpec)) octetReadsCard

/-- THE TIED CARD OF 'munimentlaw02.OctetTexts'. -/
def octetTextsCard : Claim7 := { stood := { row := octetTextsRow, standIns := [], harness := (true, "939b30648e2aca110d662888e3815f6bd1c85681e8eaca5dfde624e6149f3f5c"), looks := false }, kinds := [], alts := [], laidByText := true, laidKinds := [.data], laidTests := true, laidLooks := .later }
def OctetTextsCardSaid : Prop := Claim7.holds Tryd.pinned (.plain (OpenSpec.ofChange octetTextsSpec)) octetTextsCard

/-- THE TIED CARD OF 'munimentlaw02.OctetStands'. -/
def octetStandsCard : Claim7 := { stood := { row := octetStandsRow, standIns := [], harness := (true, "939b30648e2aca110d662888e3815f6bd1c85681e8eaca5dfde624e6149f3f5c"), looks := false }, kinds := [], alts := [], laidByText := true, laidKinds := [.data], laidTests := true, laidLooks := .later }
def OctetStandsCardSaid : Prop := Claim7.holds Tryd.pinned (.plain (OpenSpec.ofChange octetStandsSpec)) octetStandsCard

/-- THE TIED CARD OF 'munimentlaw02.OctetAbove'. -/
def octetAboveCard : Claim7 := { stood := { row := octetAboveRow, standIns := [], harness := (true, "939b30648e2aca110d662888e3815f6bd1c85681e8eaca5dfde624e6149f3f5c"), looks := false }, kinds := [], alts := [], laidByText := true, laidKinds := [.data], laidTests := true, laidLooks := .later }
def OctetAboveCardSaid : Prop := Claim7.holds Tryd.pinned (.plain (OpenSpec.ofChange octetAboveSpec)) octetAboveCard

/-- THE TIED CARD OF 'munimentlaw02.OctetSums'. -/
def octetSumsCard : Claim7 := { stood := { row := octetSumsRow, standIns := [], harness := (true, "939b30648e2aca110d662888e3815f6bd1c85681e8eaca5dfde624e6149f3f5c"), looks := false }, kinds := [], alts := [], laidByText := true, laidKinds := [.data], laidTests := true, laidLooks := .later }
def OctetSumsCardSaid : Prop := Claim7.holds Tryd.pinned (.plain (OpenSpec.ofChange octetSumsSpec)) octetSumsCard

/-- THE TIED CARD OF 'munimentlaw02.OctetRuns'. -/
def octetRunsCard : Claim7 := { stood := { row := octetRunsRow, standIns := [], harness := (true, "939b30648e2aca110d662888e3815f6bd1c85681e8eaca5dfde624e6149f3f5c"), looks := false }, kinds := [], alts := [], laidByText := true, laidKinds := [.data], laidTests := true, laidLooks := .later }
def OctetRunsCardSaid : Prop := Claim7.holds Tryd.pinned (.plain (OpenSpec.ofChange octetRunsSpec)) octetRunsCard

/-- THE TIED CARD OF 'munimentlaw02.OctetLists'. -/
def octetListsCard : Claim7 := { stood := { row := octetListsRow, standIns := [], harness := (true, "939b30648e2aca110d662888e3815f6bd1c85681e8eaca5dfde624e6149f3f5c"), looks := false }, kinds := [], alts := [], laidByText := true, laidKinds := [.data], laidTests := true, laidLooks := .later }
def OctetListsCardSaid : Prop := Claim7.holds Tryd.pinned (.plain (OpenSpec.ofChange octetListsSpec)) octetListsCard

/-- THE SECOND FORM's CARD OF 'munimentlaw02.OctetNumbers'. -/
def octetNumbersUptoCard : Claim7 := { stood := { row := octetNumbersUptoRow, standIns := [], harness := (true, "939b30648e2aca110d662888e3815f6bd1c85681e8eaca5dfde624e6149f3f5c"), looks := false }, kinds := [], alts := [], laidByText := true, laidKinds := [.data], laidTests := true, laidLooks := .later }
def OctetNumbersUptoCardSaid : Prop := Claim7.holds Tryd.pinned (.plain (OpenSpec.upto octetNumbersSpec)) octetNumbersUptoCard

/-- THE SECOND FORM's CARD OF 'munimentlaw02.OctetReads'. -/
def octetReadsUptoCard : Claim7 := { stood := { row := octetReadsUptoRow, standIns := [], harness := (true, "939b30648e2aca110d662888e3815f6bd1c85681e8eaca5dfde624e6149f3f5c"), looks := false }, kinds := [], alts := [], laidByText := true, laidKinds := [.data], laidTests := true, laidLooks := .later }
def OctetReadsUptoCardSaid : Prop := Claim7.holds Tryd.pinned (.plain (OpenSpec.upto octetReadsSpec)) octetReadsUptoCard

/-- THE SECOND FORM's CARD OF 'munimentlaw02.OctetTexts'. -/
def octetTextsUptoCard : Claim7 := { stood := { row := octetTextsUptoRow, standIns := [], harness := (true, "939b30648e2aca110d662888e3815f6bd1c85681e8eaca5dfde624e6149f3f5c"), looks := false }, kinds := [], alts := [], laidByText := true, laidKinds := [.data], laidTests := true, laidLooks := .later }
def OctetTextsUptoCardSaid : Prop := Claim7.holds Tryd.pinned (.plain (OpenSpec.upto octetTextsSpec)) octetTextsUptoCard

/-- THE SECOND FORM's CARD OF 'munimentlaw02.OctetStands'. -/
def octetStandsUptoCard : Claim7 := { stood := { row := octetStandsUptoRow, standIns := [], harness := (true, "939b30648e2aca110d662888e3815f6bd1c85681e8eaca5dfde624e6149f3f5c"), looks := false }, kinds := [], alts := [], laidByText := true, laidKinds := [.data], laidTests := true, laidLooks := .later }
def OctetStandsUptoCardSaid : Prop := Claim7.holds Tryd.pinned (.plain (OpenSpec.upto octetStandsSpec)) octetStandsUptoCard

/-- THE SECOND FORM's CARD OF 'munimentlaw02.OctetAbove'. -/
def octetAboveUptoCard : Claim7 := { stood := { row := octetAboveUptoRow, standIns := [], harness := (true, "939b30648e2aca110d662888e3815f6bd1c85681e8eaca5dfde624e6149f3f5c"), looks := false }, kinds := [], alts := [], laidByText := true, laidKinds := [.data], laidTests := true, laidLooks := .later }
def OctetAboveUptoCardSaid : Prop := Claim7.holds Tryd.pinned (.plain (OpenSpec.upto octetAboveSpec)) octetAboveUptoCard

/-- THE SECOND FORM's CARD OF 'munimentlaw02.OctetSums'. -/
def octetSumsUptoCard : Claim7 := { stood := { row := octetSumsUptoRow, standIns := [], harness := (true, "939b30648e2aca110d662888e3815f6bd1c85681e8eaca5dfde624e6149f3f5c"), looks := false }, kinds := [], alts := [], laidByText := true, laidKinds := [.data], laidTests := true, laidLooks := .later }
def OctetSumsUptoCardSaid : Prop := Claim7.holds Tryd.pinned (.plain (OpenSpec.upto octetSumsSpec)) octetSumsUptoCard

/-- THE SECOND FORM's CARD OF 'munimentlaw02.OctetRuns'. -/
def octetRunsUptoCard : Claim7 := { stood := { row := octetRunsUptoRow, standIns := [], harness := (true, "939b30648e2aca110d662888e3815f6bd1c85681e8eaca5dfde624e6149f3f5c"), looks := false }, kinds := [], alts := [], laidByText := true, laidKinds := [.data], laidTests := true, laidLooks := .later }
def OctetRunsUptoCardSaid : Prop := Claim7.holds Tryd.pinned (.plain (OpenSpec.upto octetRunsSpec)) octetRunsUptoCard

/-- THE SECOND FORM's CARD OF 'munimentlaw02.OctetLists'. -/
def octetListsUptoCard : Claim7 := { stood := { row := octetListsUptoRow, standIns := [], harness := (true, "939b30648e2aca110d662888e3815f6bd1c85681e8eaca5dfde624e6149f3f5c"), looks := false }, kinds := [], alts := [], laidByText := true, laidKinds := [.data], laidTests := true, laidLooks := .later }
def OctetListsUptoCardSaid : Prop := Claim7.holds Tryd.pinned (.plain (OpenSpec.upto octetListsSpec)) octetListsUptoCard
end Rows
end Go.Proofs.YtakmkcfljhfkdaaDoor
