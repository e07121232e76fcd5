/-
  The walk of a law of who may do what.
-/
import Derived.Test.YtakibimkkgcneaaRolL
namespace Go.Proofs.Ytakibimkkgcneaa
open Go.RowKit

set_option maxRecDepth 20000 in
set_option maxHeartbeats 4000000 in
theorem rolesGrow_walk (verb : Int) (own : Bool) (whom fresh : Int) (w : World) (h0 : 0 ≤ whom) :
    Calls Try.prog 5 #[.int .u8 verb, .bool own, .int .u8 whom, .int .u8 fresh] w fun e w' => e = .returned (.bool true) ∧ w = w' := by
  obtain ⟨a, ha⟩ : ∃ m, mayS 1 verb own whom fresh = m := ⟨_, rfl⟩
  have Ka := hide fun W => may_any 1 verb own whom fresh W
  rw [ha] at Ka
  obtain ⟨b, hb⟩ : ∃ m, mayS 2 verb own whom fresh = m := ⟨_, rfl⟩
  have Kb := hide fun W => may_any 2 verb own whom fresh W
  rw [hb] at Kb
  obtain ⟨c, hc⟩ : ∃ m, mayS 3 verb own whom fresh = m := ⟨_, rfl⟩
  have Kc := hide fun W => may_any 3 verb own whom fresh W
  rw [hc] at Kc
  have hab : a = true → b = true := fun h => by
    rw [← ha, mayS_iff] at h
    rw [← hb, mayS_iff]
    unfold mayP at h ⊢
    cases own <;> simp at h ⊢ <;> omega
  have hbc : b = true → c = true := fun h => by
    rw [← hb, mayS_iff] at h
    rw [← hc, mayS_iff]
    unfold mayP at h ⊢
    cases own <;> simp at h ⊢ <;> omega
  clear ha hb hc
  have HAB := hide hab
  have HBC := hide hbc
  clear hab hbc
  cases a
  all_goals cases b
  all_goals cases c
  all_goals
    go_enter Try.func5, Try.ntmps5
    go_wp2_with (first
      | (go_at_call 7; refine (awake_any _).mono ?_; rintro e w1 ⟨rfl, rfl⟩)
      | (go_at_call 8; (with_reducible refine (Ka.out _).mono ?_); rintro e w1 ⟨rfl, rfl⟩)
      | (go_at_call 8; (with_reducible refine (Kb.out _).mono ?_); rintro e w1 ⟨rfl, rfl⟩)
      | (go_at_call 8; (with_reducible refine (Kc.out _).mono ?_); rintro e w1 ⟨rfl, rfl⟩))
    all_goals
      go_ret
      have hab := HAB.out
      have hbc := HBC.out
      first
        | exact ⟨rfl, rfl⟩
        | (simp at hab; done)
        | (simp at hbc; done)
end Go.Proofs.Ytakibimkkgcneaa
