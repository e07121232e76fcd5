/-
  Who may do what: the document's rules as a plain function. Contracts of the program's functions and of the document's own.
-/
import Derived.Test.YtakibimkkgcneaaDoorGrow
namespace Go.Proofs.YtakibimkkgcneaaDoor
open Go.RowKit

/-- May somebody of a role do that? -/
def mayP (role verb : Int) (own : Bool) (whom fresh : Int) : Prop :=
  (role = 1 ∨ role = 2 ∨ role = 3) ∧
  ((verb = 4 ∨ verb = 5 ∨ verb = 6) ∧ own = true ∨ verb = 9 ∧ (own = true ∨ 2 ≤ role) ∨ verb = 10 ∧ 2 ≤ role ∨ verb = 11 ∧ role = 3 ∨
   (verb = 8 ∨ verb = 2) ∧ own = false ∧ 2 ≤ role ∧ whom < role ∨ verb = 1 ∧ (2 ≤ role ∧ 1 ≤ fresh ∧ fresh < role ∨ role = 3 ∧ fresh = 3) ∨
   verb = 7 ∧ own = false ∧ role = 3 ∧ whom < 3 ∧ (fresh = 1 ∨ fresh = 2 ∨ fresh = 3))
instance (role verb : Int) (own : Bool) (whom fresh : Int) : Decidable (mayP role verb own whom fresh) := by unfold mayP; infer_instance
def mayS (role verb : Int) (own : Bool) (whom fresh : Int) : Bool := decide (mayP role verb own whom fresh)
theorem ret_val {u v : Value} (h : u = v) : Ending.returned u = .returned v := by rw [h]
theorem ret_yes {p : Prop} [Decidable p] (h : p) : Ending.returned (.bool true) = .returned (.bool (decide p)) := by rw [decide_eq_true h]
theorem ret_no {p : Prop} [Decidable p] (h : ¬ p) : Ending.returned (.bool false) = .returned (.bool (decide p)) := by rw [decide_eq_false h]

theorem hide0 {p : Prop} (h : p) : Hid p := h
set_option maxRecDepth 20000 in
set_option maxHeartbeats 1000000 in
theorem isRole_any (r : Int) (w : World) :
    Calls Tryd.prog 9 #[.int .u8 r] w fun e w' => e = .returned (.bool (decide (r = 1 ∨ r = 2 ∨ r = 3))) ∧ w = w' := by
  go_enter Tryd.func9, Tryd.ntmps9
  go_wp2
  all_goals
    go_ret
    refine ⟨?_, rfl⟩
    first
      | exact ret_yes (by omega)
      | exact ret_no (by omega)
      | (refine ret_val (congrArg Value.bool ?_); rw [Bool.eq_iff_iff]; simp; omega)


theorem role_yes {r : Int} (h : r = 1 ∨ r = 2 ∨ r = 3) (w : World) : Calls Tryd.prog 9 #[.int .u8 r] w fun e w' => e = .returned (.bool true) ∧ w = w' := by
  have := isRole_any r w
  rwa [decide_eq_true h] at this
theorem role_no {r : Int} (h : ¬ (r = 1 ∨ r = 2 ∨ r = 3)) (w : World) : Calls Tryd.prog 9 #[.int .u8 r] w fun e w' => e = .returned (.bool false) ∧ w = w' := by
  have := isRole_any r w
  rwa [decide_eq_false h] at this


set_option maxRecDepth 20000 in
set_option maxHeartbeats 4000000 in
theorem may_any (role verb : Int) (own : Bool) (whom fresh : Int) (w : World) :
    Calls Tryd.prog 8 #[.int .u8 role, .int .u8 verb, .bool own, .int .u8 whom, .int .u8 fresh] w fun e w' => e = .returned (.bool (mayS role verb own whom fresh)) ∧ w = w' := by
  unfold mayS
  by_cases hr : role = 1 ∨ role = 2 ∨ role = 3
  · have KR := hide0 (role_yes hr)
    obtain ⟨bf, hbf, KF⟩ : ∃ bf : Bool, (bf = true ↔ (fresh = 1 ∨ fresh = 2 ∨ fresh = 3)) ∧ Hid (∀ w, Calls Tryd.prog 9 #[.int .u8 fresh] w fun e w' => e = .returned (.bool bf) ∧ w = w') := ⟨_, decide_eq_true_iff, hide0 (isRole_any fresh)⟩
    have HBF := hide0 hbf
    clear hbf
    cases own
    all_goals
      rcases hr with rfl | rfl | rfl
    all_goals
      go_enter Tryd.func8, Tryd.ntmps8
      go_wp2_with (first
        | (go_at_call 9; (with_reducible refine (KR.out _).mono ?_); rintro e w1 ⟨rfl, rfl⟩; clear KR)
        | (go_at_call 9; (with_reducible refine (KF.out _).mono ?_); rintro e w1 ⟨rfl, rfl⟩))
    all_goals
        have hbf := HBF.out
        go_ret
        refine ⟨ret_val (congrArg Value.bool ?_), rfl⟩
        rw [Bool.eq_iff_iff, decide_eq_true_iff]
        unfold mayP
        simp only [beq_iff_eq, beq_eq_false_iff_ne, ne_eq, decide_eq_true_eq, decide_eq_false_iff_not] at *
        clear KF HBF
        rcases bf with _ | _ <;> (try simp at hbf) <;> (try simp) <;> (try omega)
  · have KR := hide0 (role_no hr)
    go_enter Tryd.func8, Tryd.ntmps8
    go_wp2_with (go_at_call 9; refine (KR.out _).mono ?_; rintro e w1 ⟨rfl, rfl⟩)
    go_ret
    exact ⟨ret_no (fun h => hr h.1), rfl⟩
end Go.Proofs.YtakibimkkgcneaaDoor
