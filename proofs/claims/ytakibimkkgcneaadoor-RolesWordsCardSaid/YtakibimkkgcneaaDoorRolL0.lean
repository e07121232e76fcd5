/-
  The example of who may do what.
-/
import Derived.Test.YtakibimkkgcneaaDoorRolP
namespace Go.Proofs.YtakibimkkgcneaaDoor
open Go.RowKit

theorem mayS_iff {role verb : Int} {own : Bool} {whom fresh : Int} : mayS role verb own whom fresh = true ↔ mayP role verb own whom fresh := decide_eq_true_iff
theorem ret_of {e : Ending} {w w' : World} (h : e = .returned (.bool true) ∧ w = w') : ∃ v, e = .returned v ∧ Ext w w' ∧ v = .bool true := ⟨_, h.1, Ext.of_eq h.2.symm, rfl⟩
theorem may_one : mayS 2 1 false 0 1 = true := by decide
theorem may_two : mayS 2 1 false 0 2 = false := by decide
set_option maxRecDepth 20000 in
theorem awake_any (w : World) : Calls Tryd.prog 4 #[] w fun e w' => e = .returned (.bool true) ∧ w = w' := by
  have K1 := hide0 fun W => (by have h := may_any 2 1 false 0 1 W; rw [may_one] at h; exact h : Calls Tryd.prog 8 #[.int .u8 2, .int .u8 1, .bool false, .int .u8 0, .int .u8 1] W fun e w' => e = .returned (.bool true) ∧ W = w')
  have K2 := hide0 fun W => (by have h := may_any 2 1 false 0 2 W; rw [may_two] at h; exact h : Calls Tryd.prog 8 #[.int .u8 2, .int .u8 1, .bool false, .int .u8 0, .int .u8 2] W fun e w' => e = .returned (.bool false) ∧ W = w')
  go_enter Tryd.func4, Tryd.ntmps4
  go_wp2_with (first
    | (go_at_call 8; (with_reducible refine (K1.out _).mono ?_); rintro e w1 ⟨rfl, rfl⟩; clear K1)
    | (go_at_call 8; (with_reducible refine (K2.out _).mono ?_); rintro e w2 ⟨rfl, rfl⟩))
  go_ret
  exact ⟨rfl, rfl⟩
end Go.Proofs.YtakibimkkgcneaaDoor
