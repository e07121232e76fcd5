/-
  The walk of a law of who may do what.
-/
import Derived.Test.YtakibimkkgcneaaRolL
namespace Go.Proofs.Ytakibimkkgcneaa
open Go.RowKit

set_option maxRecDepth 20000 in
set_option maxHeartbeats 4000000 in
theorem rolesUp_walk (role verb : Int) (own : Bool) (whom fresh : Int) (w : World) (h0 : 0 ≤ fresh) (h1 : fresh ≤ 255) :
    Calls Try.prog 4 #[.int .u8 role, .int .u8 verb, .bool own, .int .u8 whom, .int .u8 fresh] w fun e w' => e = .returned (.bool true) ∧ w = w' := by
  obtain ⟨m, hm⟩ : ∃ m, mayS role verb own whom fresh = m := ⟨_, rfl⟩
  have KM := hide fun W => may_any role verb own whom fresh W
  rw [hm] at KM
  have HM := hide (@mayS_iff role verb own whom fresh)
  rw [hm] at HM
  clear hm
  cases m
  all_goals
    cases own
  all_goals
    go_enter Try.func4, Try.ntmps4
    go_wp2_with (first
      | (go_at_call 7; refine (awake_any _).mono ?_; rintro e w1 ⟨rfl, rfl⟩)
      | (go_at_call 8; (with_reducible refine (KM.out _).mono ?_); rintro e w1 ⟨rfl, rfl⟩))
    all_goals
      go_ret
      have hm := HM.out
      clear KM
      unfold mayP at hm
      (try simp at hm)
      refine ⟨?_, rfl⟩
      (try simp only [beq_iff_eq, beq_eq_false_iff_ne, ne_eq, decide_eq_true_eq, decide_eq_false_iff_not] at *)
      first
        | rfl
        | trivial
        | (exfalso; omega)
        | (refine ret_val (congrArg Value.bool ?_); simp; omega)
end Go.Proofs.Ytakibimkkgcneaa
