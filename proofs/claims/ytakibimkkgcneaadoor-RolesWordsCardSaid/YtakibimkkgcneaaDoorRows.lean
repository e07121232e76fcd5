/-
  NARROWER THAN 'FOR EVERY INPUT', by the rows' own cells (each row's printed sentence says how): RolesWords: laid.
  DERIVED. THE GIVEN ROWS OF THIS SEAT. 1 by the template 'for every input the law returns true; each argument reads behind the call as it read before'; 0 by the template 'total and deterministic' (their statements: YtakibimkkgcneaaDoorTotals.lean).
  GIVEN WITH THE SEED: the statements are not yours to turn. If you find one false, say at which input.
  Laid BY PROGRAM, IN A SANDBOX (cutbox-rows.mjs): the forced cells as the released guide's own fill.sh prints them over the translation bacfdc8ce9446927… (all of the seat's roots in one cut). By AI agents, Wed Nov 11 2026. No macro, syntax, notation, axiom, sorry.
-/
import Derived.Test.YtakibimkkgcneaaDoorChecked
import GoSem.Claim
import GoSem.ClaimJoined
import GoSem.ClaimMapViews
import Derived.JoinedTies
import Derived.KernelRfl
namespace Go.Proofs.YtakibimkkgcneaaDoor
/- THE CELL 'sum', in the pinned program and in every row, IS THE sha256 OF THE DUMP (.gsa) THAT YtakibimkkgcneaaDoorProg.lean LOADS. Nothing in Lean hashes anything: it is a label: what it is worth is what the hold of that sum in a sandbox is worth. -/
noncomputable def Tryd.pinned : Pinned := { name := "ytakibimkkgcneaadoor", sum := "bacfdc8ce9446927104e0c93e0198bae0f19eb356cb546e2e8f3b05477b4656d", checked := Tryd.checked }
namespace Rows
def none {H : Type} : Left H := { results := [], args := [] }

/- WHAT THE LISTED PACKAGE-LEVEL VARIABLES READ AS WHEN THE CALL BEGINS. Each datum BY PROGRAM (the guide's laid-datum.mjs) off the statement by which the dump's own 'gosem.cut.vars' lays the variable. In a bare row this is a premise. The card (YtakibimkkgcneaaDoorCards.lean) ties it to the program's text. -/
def laid_muniment_roles_words {H : Type} : DataW H := .agg [.agg [.lit (.int .u8 1), .lit (.string [117, 115, 101, 114])], .agg [.lit (.int .u8 2), .lit (.string [99, 108, 101, 114, 107])], .agg [.lit (.int .u8 3), .lit (.string [97, 100, 109, 105, 110])]]

/-- 'munimentlaw06.RolesWords': WHATEVER THE INPUT: true; the input reads as it did. -/
def rolesWordsSpec : ChangeSpec := { name := "rolesWords", fn := fun _ => fun
  | [d1, d2] => { results := [.lit (.bool true)], args := [d1, d2] }
  | _ => none }
def rolesWordsRow : OpenClaim := { program := "ytakibimkkgcneaadoor", sum := "bacfdc8ce9446927104e0c93e0198bae0f19eb356cb546e2e8f3b05477b4656d", func := "muniment/munimentlaw06.RolesWords", spec := "rolesWords", named := ["muniment/roles.words"], apart := false, laid := [("muniment/roles.words", laid_muniment_roles_words)] }
def RolesWordsSaid : Prop := rolesWordsRow.holds Tryd.pinned (OpenSpec.ofChange rolesWordsSpec)

/-- ITS FALSE NEIGHBOUR: 'it returns false'. Refute it at one input. -/
def rolesWordsWrong : ChangeSpec := { name := "rolesWords", fn := fun _ => fun
  | [d1, d2] => { results := [.lit (.bool false)], args := [d1, d2] }
  | _ => none }
def RolesWordsWrongFalsely : Prop := rolesWordsRow.holds Tryd.pinned (OpenSpec.ofChange rolesWordsWrong)

/- THE SECOND FORM. 'bulk': how many values and letters a reading holds, each counted each time it is reached (what is shared counts as often as it is met; a slice's spare places count too). A statement '..UptoSaid' is the law's where the arguments, and the package variables that the reading takes, are together of bulk at most 1048576: NARROWER than '..Said'. Prove '..Said' where nothing that the law and all that it calls make is longer than what came in: it says more and counts as full. Else prove '..UptoSaid'. A law counts once. -/
mutual
def uptoBulk {H : Type} : DataW H → Nat
  | .lit (.string bytes) => bytes.length + 1
  | .lit _ => 1
  | .nil => 1
  | .ptr d => uptoBulk d + 1
  | .slice elems spare => uptoBulkAll elems + uptoBulkAll spare + 1
  | .agg parts => uptoBulkAll parts + 1
  | .iface _ d => uptoBulk d + 1
  | .map entries => uptoBulkEntries entries + 1
  | .held _ => 1
def uptoBulkAll {H : Type} : List (DataW H) → Nat
  | [] => 0
  | d :: r => uptoBulk d + uptoBulkAll r
def uptoBulkEntries {H : Type} : List (Lit × DataW H) → Nat
  | [] => 0
  | x :: r => uptoBulkEntry x + uptoBulkEntries r
def uptoBulkEntry {H : Type} : Lit × DataW H → Nat
  | (.string bytes, d) => bytes.length + uptoBulk d + 1
  | (_, d) => uptoBulk d + 1
 end
def uptoSmall : (H : Type) → List (DataW H) → Bool := fun _ ds => decide (uptoBulkAll ds ≤ 1048576)
def OpenSpec.upto (s : _root_.Go.ChangeSpec) : _root_.Go.OpenSpec := { _root_.Go.OpenSpec.ofChange s with cond := some uptoSmall }

/-- 'munimentlaw06.RolesWords', WHERE WHAT IT READS IS OF BULK AT MOST 1048576: true; the input reads as it did. -/
def rolesWordsUptoRow : OpenClaim := { program := "ytakibimkkgcneaadoor", sum := "bacfdc8ce9446927104e0c93e0198bae0f19eb356cb546e2e8f3b05477b4656d", func := "muniment/munimentlaw06.RolesWords", spec := "rolesWords", named := ["muniment/roles.words"], apart := false, laid := [("muniment/roles.words", laid_muniment_roles_words)], narrowed := true }
def RolesWordsUptoSaid : Prop := rolesWordsUptoRow.holds Tryd.pinned (OpenSpec.upto rolesWordsSpec)

end Rows
end Go.Proofs.YtakibimkkgcneaaDoor
