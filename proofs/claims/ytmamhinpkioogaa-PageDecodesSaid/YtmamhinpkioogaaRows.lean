/-
  No cell of these rows narrows 'for every input' (looked for: loops, veiled, ifaces, maps, wideKeys, modest, calm, conditions, laid).
  DERIVED. THE GIVEN ROWS OF THIS SEAT. 8 by the template 'for every input the law returns true; each argument reads behind the call as it read before'; 0 by the template 'total and deterministic' (their statements: YtmamhinpkioogaaTotals.lean).
  GIVEN WITH THE SEED: the statements are not yours to turn. If you find one false, say at which input.
  Laid BY PROGRAM, IN A SANDBOX (cutbox-rows.mjs): the forced cells as the released guide's own fill.sh prints them over the translation 5a21948cbac7f90d… (all of the seat's roots in one cut). By AI agents, Wed Nov 11 2026. No macro, syntax, notation, axiom, sorry.
-/
import Derived.Test.YtmamhinpkioogaaChecked
import GoSem.Claim
import GoSem.ClaimJoined
import GoSem.ClaimMapViews
import Derived.JoinedTies
import Derived.KernelRfl
namespace Go.Proofs.Ytmamhinpkioogaa
/- THE CELL 'sum', in the pinned program and in every row, IS THE sha256 OF THE DUMP (.gsa) THAT YtmamhinpkioogaaProg.lean LOADS. Nothing in Lean hashes anything: it is a label: what it is worth is what the hold of that sum in a sandbox is worth. -/
noncomputable def Try.pinned : Pinned := { name := "ytmamhinpkioogaa", sum := "5a21948cbac7f90dfe6e2797e2fcf85af515ba952fefb1093c22fec57471fd8f", checked := Try.checked }
namespace Rows
def none {H : Type} : Left H := { results := [], args := [] }

/-- 'munimentlaw10.PageEncodes': WHATEVER THE INPUT: true; the input reads as it did. -/
def pageEncodesSpec : ChangeSpec := { name := "pageEncodes", fn := fun _ => fun
  | [d] => { results := [.lit (.bool true)], args := [d] }
  | _ => none }
def pageEncodesRow : OpenClaim := { program := "ytmamhinpkioogaa", sum := "5a21948cbac7f90dfe6e2797e2fcf85af515ba952fefb1093c22fec57471fd8f", func := "muniment/munimentlaw10.PageEncodes", spec := "pageEncodes", inPlace := ["internal/bytealg.Compare"], unfollowed := true, recurses := true, apart := false }
def PageEncodesSaid : Prop := pageEncodesRow.holds Try.pinned (OpenSpec.ofChange pageEncodesSpec)

/-- ITS FALSE NEIGHBOUR: 'it returns false'. Refute it at one input. -/
def pageEncodesWrong : ChangeSpec := { name := "pageEncodes", fn := fun _ => fun
  | [d] => { results := [.lit (.bool false)], args := [d] }
  | _ => none }
def PageEncodesWrongFalsely : Prop := pageEncodesRow.holds Try.pinned (OpenSpec.ofChange pageEncodesWrong)

/-- 'munimentlaw10.PageDecodes': WHATEVER THE INPUT: true; the input reads as it did. -/
def pageDecodesSpec : ChangeSpec := { name := "pageDecodes", fn := fun _ => fun
  | [d1, d2] => { results := [.lit (.bool true)], args := [d1, d2] }
  | _ => none }
def pageDecodesRow : OpenClaim := { program := "ytmamhinpkioogaa", sum := "5a21948cbac7f90dfe6e2797e2fcf85af515ba952fefb1093c22fec57471fd8f", func := "muniment/munimentlaw10.PageDecodes", spec := "pageDecodes", inPlace := ["internal/bytealg.Compare"], unfollowed := true, recurses := true, apart := false }
def PageDecodesSaid : Prop := pageDecodesRow.holds Try.pinned (OpenSpec.ofChange pageDecodesSpec)

/-- ITS FALSE NEIGHBOUR: 'it returns false'. Refute it at one input. -/
def pageDecodesWrong : ChangeSpec := { name := "pageDecodes", fn := fun _ => fun
  | [d1, d2] => { results := [.lit (.bool false)], args := [d1, d2] }
  | _ => none }
def PageDecodesWrongFalsely : Prop := pageDecodesRow.holds Try.pinned (OpenSpec.ofChange pageDecodesWrong)

/-- 'munimentlaw10.PageCells': WHATEVER THE INPUT: true; the input reads as it did. -/
def pageCellsSpec : ChangeSpec := { name := "pageCells", fn := fun _ => fun
  | [d1, d2] => { results := [.lit (.bool true)], args := [d1, d2] }
  | _ => none }
def pageCellsRow : OpenClaim := { program := "ytmamhinpkioogaa", sum := "5a21948cbac7f90dfe6e2797e2fcf85af515ba952fefb1093c22fec57471fd8f", func := "muniment/munimentlaw10.PageCells", spec := "pageCells", inPlace := ["internal/bytealg.Compare"], unfollowed := true, recurses := true, apart := false }
def PageCellsSaid : Prop := pageCellsRow.holds Try.pinned (OpenSpec.ofChange pageCellsSpec)

/-- ITS FALSE NEIGHBOUR: 'it returns false'. Refute it at one input. -/
def pageCellsWrong : ChangeSpec := { name := "pageCells", fn := fun _ => fun
  | [d1, d2] => { results := [.lit (.bool false)], args := [d1, d2] }
  | _ => none }
def PageCellsWrongFalsely : Prop := pageCellsRow.holds Try.pinned (OpenSpec.ofChange pageCellsWrong)

/-- 'munimentlaw10.PageHalves': WHATEVER THE INPUT: true; the input reads as it did. -/
def pageHalvesSpec : ChangeSpec := { name := "pageHalves", fn := fun _ => fun
  | [d] => { results := [.lit (.bool true)], args := [d] }
  | _ => none }
def pageHalvesRow : OpenClaim := { program := "ytmamhinpkioogaa", sum := "5a21948cbac7f90dfe6e2797e2fcf85af515ba952fefb1093c22fec57471fd8f", func := "muniment/munimentlaw10.PageHalves", spec := "pageHalves", inPlace := ["internal/bytealg.Compare"], unfollowed := true, recurses := true, apart := false }
def PageHalvesSaid : Prop := pageHalvesRow.holds Try.pinned (OpenSpec.ofChange pageHalvesSpec)

/-- ITS FALSE NEIGHBOUR: 'it returns false'. Refute it at one input. -/
def pageHalvesWrong : ChangeSpec := { name := "pageHalves", fn := fun _ => fun
  | [d] => { results := [.lit (.bool false)], args := [d] }
  | _ => none }
def PageHalvesWrongFalsely : Prop := pageHalvesRow.holds Try.pinned (OpenSpec.ofChange pageHalvesWrong)

/-- 'munimentlaw10.PageFits': WHATEVER THE INPUT: true; the input reads as it did. -/
def pageFitsSpec : ChangeSpec := { name := "pageFits", fn := fun _ => fun
  | [d1, d2] => { results := [.lit (.bool true)], args := [d1, d2] }
  | _ => none }
def pageFitsRow : OpenClaim := { program := "ytmamhinpkioogaa", sum := "5a21948cbac7f90dfe6e2797e2fcf85af515ba952fefb1093c22fec57471fd8f", func := "muniment/munimentlaw10.PageFits", spec := "pageFits", inPlace := ["internal/bytealg.Compare"], unfollowed := true, recurses := true, apart := false }
def PageFitsSaid : Prop := pageFitsRow.holds Try.pinned (OpenSpec.ofChange pageFitsSpec)

/-- ITS FALSE NEIGHBOUR: 'it returns false'. Refute it at one input. -/
def pageFitsWrong : ChangeSpec := { name := "pageFits", fn := fun _ => fun
  | [d1, d2] => { results := [.lit (.bool false)], args := [d1, d2] }
  | _ => none }
def PageFitsWrongFalsely : Prop := pageFitsRow.holds Try.pinned (OpenSpec.ofChange pageFitsWrong)

/-- 'munimentlaw10.PageKeeps': WHATEVER THE INPUT: true; the input reads as it did. -/
def pageKeepsSpec : ChangeSpec := { name := "pageKeeps", fn := fun _ => fun
  | [d1, d2] => { results := [.lit (.bool true)], args := [d1, d2] }
  | _ => none }
def pageKeepsRow : OpenClaim := { program := "ytmamhinpkioogaa", sum := "5a21948cbac7f90dfe6e2797e2fcf85af515ba952fefb1093c22fec57471fd8f", func := "muniment/munimentlaw10.PageKeeps", spec := "pageKeeps", inPlace := ["internal/bytealg.Compare"], unfollowed := true, recurses := true, apart := false }
def PageKeepsSaid : Prop := pageKeepsRow.holds Try.pinned (OpenSpec.ofChange pageKeepsSpec)

/-- ITS FALSE NEIGHBOUR: 'it returns false'. Refute it at one input. -/
def pageKeepsWrong : ChangeSpec := { name := "pageKeeps", fn := fun _ => fun
  | [d1, d2] => { results := [.lit (.bool false)], args := [d1, d2] }
  | _ => none }
def PageKeepsWrongFalsely : Prop := pageKeepsRow.holds Try.pinned (OpenSpec.ofChange pageKeepsWrong)

/-- 'munimentlaw10.PageSorts': WHATEVER THE INPUT: true; the input reads as it did. -/
def pageSortsSpec : ChangeSpec := { name := "pageSorts", fn := fun _ => fun
  | [d] => { results := [.lit (.bool true)], args := [d] }
  | _ => none }
def pageSortsRow : OpenClaim := { program := "ytmamhinpkioogaa", sum := "5a21948cbac7f90dfe6e2797e2fcf85af515ba952fefb1093c22fec57471fd8f", func := "muniment/munimentlaw10.PageSorts", spec := "pageSorts", inPlace := ["internal/bytealg.Compare"], unfollowed := true, recurses := true, apart := false }
def PageSortsSaid : Prop := pageSortsRow.holds Try.pinned (OpenSpec.ofChange pageSortsSpec)

/-- ITS FALSE NEIGHBOUR: 'it returns false'. Refute it at one input. -/
def pageSortsWrong : ChangeSpec := { name := "pageSorts", fn := fun _ => fun
  | [d] => { results := [.lit (.bool false)], args := [d] }
  | _ => none }
def PageSortsWrongFalsely : Prop := pageSortsRow.holds Try.pinned (OpenSpec.ofChange pageSortsWrong)

/-- 'munimentlaw10.PageSwaps': WHATEVER THE INPUT: true; the input reads as it did. -/
def pageSwapsSpec : ChangeSpec := { name := "pageSwaps", fn := fun _ => fun
  | [d1, d2] => { results := [.lit (.bool true)], args := [d1, d2] }
  | _ => none }
def pageSwapsRow : OpenClaim := { program := "ytmamhinpkioogaa", sum := "5a21948cbac7f90dfe6e2797e2fcf85af515ba952fefb1093c22fec57471fd8f", func := "muniment/munimentlaw10.PageSwaps", spec := "pageSwaps", inPlace := ["internal/bytealg.Compare"], unfollowed := true, recurses := true, apart := false }
def PageSwapsSaid : Prop := pageSwapsRow.holds Try.pinned (OpenSpec.ofChange pageSwapsSpec)

/-- ITS FALSE NEIGHBOUR: 'it returns false'. Refute it at one input. -/
def pageSwapsWrong : ChangeSpec := { name := "pageSwaps", fn := fun _ => fun
  | [d1, d2] => { results := [.lit (.bool false)], args := [d1, d2] }
  | _ => none }
def PageSwapsWrongFalsely : Prop := pageSwapsRow.holds Try.pinned (OpenSpec.ofChange pageSwapsWrong)

/- THE SECOND FORM. 'bulk': how many values and letters a reading holds, each counted each time it is reached (what is shared counts as often as it is met; a slice's spare places count too). A statement '..UptoSaid' is the law's where the arguments, and the package variables that the reading takes, are together of bulk at most 1048576: NARROWER than '..Said'. Prove '..Said' where nothing that the law and all that it calls make is longer than what came in: it says more and counts as full. Else prove '..UptoSaid'. A law counts once. -/
mutual
def uptoBulk {H : Type} : DataW H → Nat
  | .lit (.string bytes) => bytes.length + 1
  | .lit _ => 1
  | .nil => 1
  | .ptr d => uptoBulk d + 1
  | .slice elems spare => uptoBulkAll elems + uptoBulkAll spare + 1
  | .agg parts => uptoBulkAll parts + 1
  | .iface _ d => uptoBulk d + 1
  | .map entries => uptoBulkEntries entries + 1
  | .held _ => 1
def uptoBulkAll {H : Type} : List (DataW H) → Nat
  | [] => 0
  | d :: r => uptoBulk d + uptoBulkAll r
def uptoBulkEntries {H : Type} : List (Lit × DataW H) → Nat
  | [] => 0
  | x :: r => uptoBulkEntry x + uptoBulkEntries r
def uptoBulkEntry {H : Type} : Lit × DataW H → Nat
  | (.string bytes, d) => bytes.length + uptoBulk d + 1
  | (_, d) => uptoBulk d + 1
 end
def uptoSmall : (H : Type) → List (DataW H) → Bool := fun _ ds => decide (uptoBulkAll ds ≤ 1048576)
def OpenSpec.upto (s : _root_.Go.ChangeSpec) : _root_.Go.OpenSpec := { _root_.Go.OpenSpec.ofChange s with cond := some uptoSmall }

/-- 'munimentlaw10.PageEncodes', WHERE WHAT IT READS IS OF BULK AT MOST 1048576: true; the input reads as it did. -/
def pageEncodesUptoRow : OpenClaim := { program := "ytmamhinpkioogaa", sum := "5a21948cbac7f90dfe6e2797e2fcf85af515ba952fefb1093c22fec57471fd8f", func := "muniment/munimentlaw10.PageEncodes", spec := "pageEncodes", inPlace := ["internal/bytealg.Compare"], unfollowed := true, recurses := true, apart := false, narrowed := true }
def PageEncodesUptoSaid : Prop := pageEncodesUptoRow.holds Try.pinned (OpenSpec.upto pageEncodesSpec)

/-- 'munimentlaw10.PageDecodes', WHERE WHAT IT READS IS OF BULK AT MOST 1048576: true; the input reads as it did. -/
def pageDecodesUptoRow : OpenClaim := { program := "ytmamhinpkioogaa", sum := "5a21948cbac7f90dfe6e2797e2fcf85af515ba952fefb1093c22fec57471fd8f", func := "muniment/munimentlaw10.PageDecodes", spec := "pageDecodes", inPlace := ["internal/bytealg.Compare"], unfollowed := true, recurses := true, apart := false, narrowed := true }
def PageDecodesUptoSaid : Prop := pageDecodesUptoRow.holds Try.pinned (OpenSpec.upto pageDecodesSpec)

/-- 'munimentlaw10.PageCells', WHERE WHAT IT READS IS OF BULK AT MOST 1048576: true; the input reads as it did. -/
def pageCellsUptoRow : OpenClaim := { program := "ytmamhinpkioogaa", sum := "5a21948cbac7f90dfe6e2797e2fcf85af515ba952fefb1093c22fec57471fd8f", func := "muniment/munimentlaw10.PageCells", spec := "pageCells", inPlace := ["internal/bytealg.Compare"], unfollowed := true, recurses := true, apart := false, narrowed := true }
def PageCellsUptoSaid : Prop := pageCellsUptoRow.holds Try.pinned (OpenSpec.upto pageCellsSpec)

/-- 'munimentlaw10.PageHalves', WHERE WHAT IT READS IS OF BULK AT MOST 1048576: true; the input reads as it did. -/
def pageHalvesUptoRow : OpenClaim := { program := "ytmamhinpkioogaa", sum := "5a21948cbac7f90dfe6e2797e2fcf85af515ba952fefb1093c22fec57471fd8f", func := "muniment/munimentlaw10.PageHalves", spec := "pageHalves", inPlace := ["internal/bytealg.Compare"], unfollowed := true, recurses := true, apart := false, narrowed := true }
def PageHalvesUptoSaid : Prop := pageHalvesUptoRow.holds Try.pinned (OpenSpec.upto pageHalvesSpec)

/-- 'munimentlaw10.PageFits', WHERE WHAT IT READS IS OF BULK AT MOST 1048576: true; the input reads as it did. -/
def pageFitsUptoRow : OpenClaim := { program := "ytmamhinpkioogaa", sum := "5a21948cbac7f90dfe6e2797e2fcf85af515ba952fefb1093c22fec57471fd8f", func := "muniment/munimentlaw10.PageFits", spec := "pageFits", inPlace := ["internal/bytealg.Compare"], unfollowed := true, recurses := true, apart := false, narrowed := true }
def PageFitsUptoSaid : Prop := pageFitsUptoRow.holds Try.pinned (OpenSpec.upto pageFitsSpec)

/-- 'munimentlaw10.PageKeeps', WHERE WHAT IT READS IS OF BULK AT MOST 1048576: true; the input reads as it did. -/
def pageKeepsUptoRow : OpenClaim := { program := "ytmamhinpkioogaa", sum := "5a21948cbac7f90dfe6e2797e2fcf85af515ba952fefb1093c22fec57471fd8f", func := "muniment/munimentlaw10.PageKeeps", spec := "pageKeeps", inPlace := ["internal/bytealg.Compare"], unfollowed := true, recurses := true, apart := false, narrowed := true }
def PageKeepsUptoSaid : Prop := pageKeepsUptoRow.holds Try.pinned (OpenSpec.upto pageKeepsSpec)

/-- 'munimentlaw10.PageSorts', WHERE WHAT IT READS IS OF BULK AT MOST 1048576: true; the input reads as it did. -/
def pageSortsUptoRow : OpenClaim := { program := "ytmamhinpkioogaa", sum := "5a21948cbac7f90dfe6e2797e2fcf85af515ba952fefb1093c22fec57471fd8f", func := "muniment/munimentlaw10.PageSorts", spec := "pageSorts", inPlace := ["internal/bytealg.Compare"], unfollowed := true, recurses := true, apart := false, narrowed := true }
def PageSortsUptoSaid : Prop := pageSortsUptoRow.holds Try.pinned (OpenSpec.upto pageSortsSpec)

/-- 'munimentlaw10.PageSwaps', WHERE WHAT IT READS IS OF BULK AT MOST 1048576: true; the input reads as it did. -/
def pageSwapsUptoRow : OpenClaim := { program := "ytmamhinpkioogaa", sum := "5a21948cbac7f90dfe6e2797e2fcf85af515ba952fefb1093c22fec57471fd8f", func := "muniment/munimentlaw10.PageSwaps", spec := "pageSwaps", inPlace := ["internal/bytealg.Compare"], unfollowed := true, recurses := true, apart := false, narrowed := true }
def PageSwapsUptoSaid : Prop := pageSwapsUptoRow.holds Try.pinned (OpenSpec.upto pageSwapsSpec)

end Rows
end Go.Proofs.Ytmamhinpkioogaa
