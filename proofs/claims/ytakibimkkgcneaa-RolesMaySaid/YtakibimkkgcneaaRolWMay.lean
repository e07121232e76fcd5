/-
  The walk of a law of who may do what.
-/
import Derived.Test.YtakibimkkgcneaaRolL
namespace Go.Proofs.Ytakibimkkgcneaa
open Go.RowKit

set_option maxRecDepth 20000 in
set_option maxHeartbeats 4000000 in
theorem rolesMay_walk (role verb : Int) (own : Bool) (whom fresh : Int) (w : World) :
    Calls Try.prog 3 #[.int .u8 role, .int .u8 verb, .bool own, .int .u8 whom, .int .u8 fresh] w fun e w' => e = .returned (.bool true) ∧ w = w' := by
  obtain ⟨m, HM⟩ : ∃ m, Hid (mayS role verb own whom fresh = m) := ⟨_, rfl⟩
  have KM := hide fun W => may_any role verb own whom fresh W
  have KR := hide fun W => rmay_any role verb own whom fresh W
  rw [HM.out] at KM KR
  cases m
  all_goals
    go_enter Try.func3, Try.ntmps3
    go_wp2_with (first
      | (go_at_call 7; refine (awake_any _).mono ?_; rintro e w1 ⟨rfl, rfl⟩)
      | (go_at_call 8; (with_reducible refine (KM.out _).mono ?_); rintro e w1 ⟨rfl, rfl⟩)
      | (go_at_call 9; (with_reducible refine (KR.out _).mono ?_); rintro e w1 ⟨rfl, rfl⟩))
    all_goals
      go_ret
      refine ⟨?_, rfl⟩
      (try simp only [beq_iff_eq, beq_eq_false_iff_ne, ne_eq, decide_eq_true_eq, decide_eq_false_iff_not] at *)
      first
        | rfl
        | trivial
        | (exfalso; omega)
        | (refine ret_val (congrArg Value.bool ?_); simp; omega)
end Go.Proofs.Ytakibimkkgcneaa
