/-
  The walk of a law of who may do what.
-/
import Derived.Test.YtakibimkkgcneaaRolL
namespace Go.Proofs.Ytakibimkkgcneaa
open Go.RowKit

set_option maxRecDepth 20000 in
set_option maxHeartbeats 4000000 in
theorem rolesOwn_walk (role verb : Int) (whom fresh : Int) (w : World) :
    Calls Try.prog 6 #[.int .u8 role, .int .u8 verb, .int .u8 whom, .int .u8 fresh] w fun e w' => e = .returned (.bool true) ∧ w = w' := by
  obtain ⟨a, ha⟩ : ∃ m, mayS role verb true whom fresh = m := ⟨_, rfl⟩
  have Ka := hide fun W => may_any role verb true whom fresh W
  rw [ha] at Ka
  obtain ⟨b, hb⟩ : ∃ m, mayS role verb false whom fresh = m := ⟨_, rfl⟩
  have Kb := hide fun W => may_any role verb false whom fresh W
  rw [hb] at Kb
  by_cases h1 : role < 1
  · clear Ka Kb ha hb
    go_enter Try.func6, Try.ntmps6
    go_wp2_with (first
      | (go_at_call 7; refine (awake_any _).mono ?_; rintro e w1 ⟨rfl, rfl⟩)
      | (go_at_call 8; (with_reducible refine (Ka.out _).mono ?_); rintro e w1 ⟨rfl, rfl⟩)
      | (go_at_call 8; (with_reducible refine (Kb.out _).mono ?_); rintro e w1 ⟨rfl, rfl⟩))
    all_goals
      go_ret
      exact ⟨rfl, rfl⟩
  by_cases h3 : 3 < role
  · clear Ka Kb ha hb
    go_enter Try.func6, Try.ntmps6
    go_wp2_with (first
      | (go_at_call 7; refine (awake_any _).mono ?_; rintro e w1 ⟨rfl, rfl⟩)
      | (go_at_call 8; (with_reducible refine (Ka.out _).mono ?_); rintro e w1 ⟨rfl, rfl⟩)
      | (go_at_call 8; (with_reducible refine (Kb.out _).mono ?_); rintro e w1 ⟨rfl, rfl⟩))
    all_goals
      go_ret
      exact ⟨rfl, rfl⟩
  have e1 : decide (role < 1) = false := decide_eq_false h1
  have e3 : decide (3 < role) = false := decide_eq_false h3
  by_cases hv : verb = 4 ∨ verb = 5 ∨ verb = 6 ∨ verb = 9
  · have : a = true := by rw [← ha, mayS_iff]; unfold mayP; simp; omega
    subst this
    clear ha hb Kb
    rcases hv with rfl | rfl | rfl | rfl
    all_goals
    go_enter Try.func6, Try.ntmps6
    go_wp2_with (first
      | (go_at_call 7; refine (awake_any _).mono ?_; rintro e w1 ⟨rfl, rfl⟩)
      | (go_at_call 8; (with_reducible refine (Ka.out _).mono ?_); rintro e w1 ⟨rfl, rfl⟩)
      | (go_at_call 8; (with_reducible refine (Kb.out _).mono ?_); rintro e w1 ⟨rfl, rfl⟩))
    all_goals
      go_ret
      exact ⟨rfl, rfl⟩
  by_cases hu : verb = 2 ∨ verb = 8 ∨ verb = 7 ∨ verb = 3
  · have : a = false := by
      rw [← ha, Bool.eq_false_iff, ne_eq, mayS_iff]
      unfold mayP
      simp
      omega
    subst this
    clear ha hb Kb
    rcases hu with rfl | rfl | rfl | rfl
    all_goals
    go_enter Try.func6, Try.ntmps6
    go_wp2_with (first
      | (go_at_call 7; refine (awake_any _).mono ?_; rintro e w1 ⟨rfl, rfl⟩)
      | (go_at_call 8; (with_reducible refine (Ka.out _).mono ?_); rintro e w1 ⟨rfl, rfl⟩)
      | (go_at_call 8; (with_reducible refine (Kb.out _).mono ?_); rintro e w1 ⟨rfl, rfl⟩))
    all_goals
      go_ret
      exact ⟨rfl, rfl⟩
  have : a = b := by
    rw [← ha, ← hb, Bool.eq_iff_iff, mayS_iff, mayS_iff]
    unfold mayP
    simp
    omega
  subst this
  clear ha hb
  have g2 : (verb == 2) = false := beq_eq_false_iff_ne.2 (by omega)
  have g3 : (verb == 3) = false := beq_eq_false_iff_ne.2 (by omega)
  have g4 : (verb == 4) = false := beq_eq_false_iff_ne.2 (by omega)
  have g5 : (verb == 5) = false := beq_eq_false_iff_ne.2 (by omega)
  have g6 : (verb == 6) = false := beq_eq_false_iff_ne.2 (by omega)
  have g7 : (verb == 7) = false := beq_eq_false_iff_ne.2 (by omega)
  have g8 : (verb == 8) = false := beq_eq_false_iff_ne.2 (by omega)
  have g9 : (verb == 9) = false := beq_eq_false_iff_ne.2 (by omega)
  clear hv hu
  cases a
  all_goals
    go_enter Try.func6, Try.ntmps6
    go_wp2_with (first
      | (go_at_call 7; refine (awake_any _).mono ?_; rintro e w1 ⟨rfl, rfl⟩)
      | (go_at_call 8; (with_reducible refine (Ka.out _).mono ?_); rintro e w1 ⟨rfl, rfl⟩)
      | (go_at_call 8; (with_reducible refine (Kb.out _).mono ?_); rintro e w1 ⟨rfl, rfl⟩))
    all_goals
      go_ret
      exact ⟨rfl, rfl⟩
end Go.Proofs.Ytakibimkkgcneaa
