/-
  NARROWER THAN 'FOR EVERY INPUT', by the rows' own cells (each row's printed sentence says how): PoolPins: laid · PoolSteals: laid.
  DERIVED. THE GIVEN ROWS OF THIS SEAT. 2 by the template 'for every input the law returns true; each argument reads behind the call as it read before'; 0 by the template 'total and deterministic' (their statements: YtklbaddoomlkeaaDoorTotals.lean).
  GIVEN WITH THE SEED: the statements are not yours to turn. If you find one false, say at which input.
  Laid BY PROGRAM, IN A SANDBOX (cutbox-rows.mjs): the forced cells as the released guide's own fill.sh prints them over the translation 2ab31a7332d3f182… (all of the seat's roots in one cut). By AI agents, Wed Nov 11 2026. No macro, syntax, notation, axiom, sorry.
-/
import Derived.Test.YtklbaddoomlkeaaDoorChecked
import GoSem.Claim
import GoSem.ClaimJoined
import GoSem.ClaimMapViews
import Derived.JoinedTies
import Derived.KernelRfl
namespace Go.Proofs.YtklbaddoomlkeaaDoor
/- THE CELL 'sum', in the pinned program and in every row, IS THE sha256 OF THE DUMP (.gsa) THAT YtklbaddoomlkeaaDoorProg.lean LOADS. Nothing in Lean hashes anything: it is a label: what it is worth is what the hold of that sum in a sandbox is worth. -/
noncomputable def Tryd.pinned : Pinned := { name := "ytklbaddoomlkeaadoor", sum := "2ab31a7332d3f1829eb46901cf8357edd0865528d6373e056dad3c5c4764c5f0", checked := Tryd.checked }
namespace Rows
def none {H : Type} : Left H := { results := [], args := [] }

/- WHAT THE LISTED PACKAGE-LEVEL VARIABLES READ AS WHEN THE CALL BEGINS. Each datum BY PROGRAM (the guide's laid-datum.mjs) off the statement by which the dump's own 'gosem.cut.vars' lays the variable. In a bare row this is a premise. The card (YtklbaddoomlkeaaDoorCards.lean) ties it to the program's text. -/
def laid_muniment_octet_halfBytes {H : Type} : DataW H := .agg [.lit (.int .u32 0), .lit (.int .u32 498536548), .lit (.int .u32 997073096), .lit (.int .u32 651767980), .lit (.int .u32 1994146192), .lit (.int .u32 1802195444), .lit (.int .u32 1303535960), .lit (.int .u32 1342533948), .lit (.int .u32 3988292384), .lit (.int .u32 4027552580), .lit (.int .u32 3604390888), .lit (.int .u32 3412177804), .lit (.int .u32 2607071920), .lit (.int .u32 2262029012), .lit (.int .u32 2685067896), .lit (.int .u32 3183342108)]

/-- 'munimentlaw11.PoolPins': WHATEVER THE INPUT: true; the input reads as it did. -/
def poolPinsSpec : ChangeSpec := { name := "poolPins", fn := fun _ => fun
  | [d] => { results := [.lit (.bool true)], args := [d] }
  | _ => none }
def poolPinsRow : OpenClaim := { program := "ytklbaddoomlkeaadoor", sum := "2ab31a7332d3f1829eb46901cf8357edd0865528d6373e056dad3c5c4764c5f0", func := "muniment/munimentlaw11.PoolPins", spec := "poolPins", unfollowed := true, recurses := true, named := ["muniment/octet.halfBytes"], apart := false, laid := [("muniment/octet.halfBytes", laid_muniment_octet_halfBytes)] }
def PoolPinsSaid : Prop := poolPinsRow.holds Tryd.pinned (OpenSpec.ofChange poolPinsSpec)

/-- ITS FALSE NEIGHBOUR: 'it returns false'. Refute it at one input. -/
def poolPinsWrong : ChangeSpec := { name := "poolPins", fn := fun _ => fun
  | [d] => { results := [.lit (.bool false)], args := [d] }
  | _ => none }
def PoolPinsWrongFalsely : Prop := poolPinsRow.holds Tryd.pinned (OpenSpec.ofChange poolPinsWrong)

/-- 'munimentlaw11.PoolSteals': WHATEVER THE INPUT: true; the input reads as it did. -/
def poolStealsSpec : ChangeSpec := { name := "poolSteals", fn := fun _ => fun
  | [d1, d2, d3] => { results := [.lit (.bool true)], args := [d1, d2, d3] }
  | _ => none }
def poolStealsRow : OpenClaim := { program := "ytklbaddoomlkeaadoor", sum := "2ab31a7332d3f1829eb46901cf8357edd0865528d6373e056dad3c5c4764c5f0", func := "muniment/munimentlaw11.PoolSteals", spec := "poolSteals", unfollowed := true, recurses := true, named := ["muniment/octet.halfBytes"], apart := false, laid := [("muniment/octet.halfBytes", laid_muniment_octet_halfBytes)] }
def PoolStealsSaid : Prop := poolStealsRow.holds Tryd.pinned (OpenSpec.ofChange poolStealsSpec)

/-- ITS FALSE NEIGHBOUR: 'it returns false'. Refute it at one input. -/
def poolStealsWrong : ChangeSpec := { name := "poolSteals", fn := fun _ => fun
  | [d1, d2, d3] => { results := [.lit (.bool false)], args := [d1, d2, d3] }
  | _ => none }
def PoolStealsWrongFalsely : Prop := poolStealsRow.holds Tryd.pinned (OpenSpec.ofChange poolStealsWrong)

/- THE SECOND FORM. 'bulk': how many values and letters a reading holds, each counted each time it is reached (what is shared counts as often as it is met; a slice's spare places count too). A statement '..UptoSaid' is the law's where the arguments, and the package variables that the reading takes, are together of bulk at most 1048576: NARROWER than '..Said'. Prove '..Said' where nothing that the law and all that it calls make is longer than what came in: it says more and counts as full. Else prove '..UptoSaid'. A law counts once. -/
mutual
def uptoBulk {H : Type} : DataW H → Nat
  | .lit (.string bytes) => bytes.length + 1
  | .lit _ => 1
  | .nil => 1
  | .ptr d => uptoBulk d + 1
  | .slice elems spare => uptoBulkAll elems + uptoBulkAll spare + 1
  | .agg parts => uptoBulkAll parts + 1
  | .iface _ d => uptoBulk d + 1
  | .map entries => uptoBulkEntries entries + 1
  | .held _ => 1
def uptoBulkAll {H : Type} : List (DataW H) → Nat
  | [] => 0
  | d :: r => uptoBulk d + uptoBulkAll r
def uptoBulkEntries {H : Type} : List (Lit × DataW H) → Nat
  | [] => 0
  | x :: r => uptoBulkEntry x + uptoBulkEntries r
def uptoBulkEntry {H : Type} : Lit × DataW H → Nat
  | (.string bytes, d) => bytes.length + uptoBulk d + 1
  | (_, d) => uptoBulk d + 1
 end
def uptoSmall : (H : Type) → List (DataW H) → Bool := fun _ ds => decide (uptoBulkAll ds ≤ 1048576)
def OpenSpec.upto (s : _root_.Go.ChangeSpec) : _root_.Go.OpenSpec := { _root_.Go.OpenSpec.ofChange s with cond := some uptoSmall }

/-- 'munimentlaw11.PoolPins', WHERE WHAT IT READS IS OF BULK AT MOST 1048576: true; the input reads as it did. -/
def poolPinsUptoRow : OpenClaim := { program := "ytklbaddoomlkeaadoor", sum := "2ab31a7332d3f1829eb46901cf8357edd0865528d6373e056dad3c5c4764c5f0", func := "muniment/munimentlaw11.PoolPins", spec := "poolPins", unfollowed := true, recurses := true, named := ["muniment/octet.halfBytes"], apart := false, laid := [("muniment/octet.halfBytes", laid_muniment_octet_halfBytes)], narrowed := true }
def PoolPinsUptoSaid : Prop := poolPinsUptoRow.holds Tryd.pinned (OpenSpec.upto poolPinsSpec)

/-- 'munimentlaw11.PoolSteals', WHERE WHAT IT READS IS OF BULK AT MOST 1048576: true; the input reads as it did. -/
def poolStealsUptoRow : OpenClaim := { program := "ytklbaddoomlkeaadoor", sum := "2ab31a7332d3f1829eb46901cf8357edd0865528d6373e056dad3c5c4764c5f0", func := "muniment/munimentlaw11.PoolSteals", spec := "poolSteals", unfollowed := true, recurses := true, named := ["muniment/octet.halfBytes"], apart := false, laid := [("muniment/octet.halfBytes", laid_muniment_octet_halfBytes)], narrowed := true }
def PoolStealsUptoSaid : Prop := poolStealsUptoRow.holds Tryd.pinned (OpenSpec.upto poolStealsSpec)

end Rows
end Go.Proofs.YtklbaddoomlkeaaDoor
