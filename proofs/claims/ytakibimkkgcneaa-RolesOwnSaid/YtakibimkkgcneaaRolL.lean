/-
  The document's own answer to who may do what, and its example.
-/
import Derived.Test.YtakibimkkgcneaaRolP
namespace Go.Proofs.Ytakibimkkgcneaa
open Go.RowKit

theorem word_any (r : Int) (w : World) :
    Calls Try.prog 11 #[.int .u8 r] w fun e w' => e = .returned (.string (if r = 1 then ⟨#[117, 115, 101, 114]⟩ else if r = 2 then ⟨#[99, 108, 101, 114, 107]⟩ else if r = 3 then ⟨#[97, 100, 109, 105, 110]⟩ else ⟨#[]⟩)) ∧ w = w' := by
  go_enter Try.func11, Try.ntmps11
  go_wp2
  all_goals
    go_ret
    simp only [beq_iff_eq, beq_eq_false_iff_ne, ne_eq] at *
    (try subst r)
    simp_all
theorem word_no {r : Int} (h : ¬ (r = 1 ∨ r = 2 ∨ r = 3)) (w : World) : Calls Try.prog 11 #[.int .u8 r] w fun e w' => e = .returned (.string ⟨#[]⟩) ∧ w = w' := by
  have := word_any r w
  rwa [if_neg (by omega), if_neg (by omega), if_neg (by omega)] at this
theorem word_yes {r : Int} (h : r = 1 ∨ r = 2 ∨ r = 3) : ∃ s : ByteArray, (s = ⟨#[117, 115, 101, 114]⟩ ∨ s = ⟨#[99, 108, 101, 114, 107]⟩ ∨ s = ⟨#[97, 100, 109, 105, 110]⟩) ∧ ∀ w, Calls Try.prog 11 #[.int .u8 r] w fun e w' => e = .returned (.string s) ∧ w = w' := by
  rcases h with rfl | rfl | rfl
  · exact ⟨_, .inl rfl, fun w => by have := word_any 1 w; rwa [if_pos rfl] at this⟩
  · exact ⟨_, .inr (.inl rfl), fun w => by have := word_any 2 w; rwa [if_neg (by decide), if_pos rfl] at this⟩
  · exact ⟨_, .inr (.inr rfl), fun w => by have := word_any 3 w; rwa [if_neg (by decide), if_neg (by decide), if_pos rfl] at this⟩

set_option maxRecDepth 20000 in
set_option maxHeartbeats 4000000 in
theorem rmay_any (role verb : Int) (own : Bool) (whom fresh : Int) (w : World) :
    Calls Try.prog 9 #[.int .u8 role, .int .u8 verb, .bool own, .int .u8 whom, .int .u8 fresh] w fun e w' => e = .returned (.bool (mayS role verb own whom fresh)) ∧ w = w' := by
  unfold mayS
  by_cases hr : role = 1 ∨ role = 2 ∨ role = 3
  · obtain ⟨s, hs, K⟩ := word_yes hr
    have KR := hide K
    obtain ⟨t, bf, ht, hbf, K2⟩ : ∃ (t : ByteArray) (bf : Bool), (bf = false ∧ t = ⟨#[]⟩ ∨ bf = true ∧ (t = ⟨#[117, 115, 101, 114]⟩ ∨ t = ⟨#[99, 108, 101, 114, 107]⟩ ∨ t = ⟨#[97, 100, 109, 105, 110]⟩)) ∧ (bf = true ↔ (fresh = 1 ∨ fresh = 2 ∨ fresh = 3)) ∧
        ∀ w, Calls Try.prog 11 #[.int .u8 fresh] w fun e w' => e = .returned (.string t) ∧ w = w' := by
      by_cases hf : fresh = 1 ∨ fresh = 2 ∨ fresh = 3
      · obtain ⟨t, ht, K⟩ := word_yes hf
        exact ⟨t, true, .inr ⟨rfl, ht⟩, by simp [hf], K⟩
      · exact ⟨_, false, .inl ⟨rfl, rfl⟩, by simp [hf], word_no hf⟩
    have KF := hide K2
    have HBF := hide hbf
    clear hbf K K2
    rcases hs with rfl | rfl | rfl
    all_goals
      rcases ht with ⟨rfl, rfl⟩ | ⟨rfl, rfl | rfl | rfl⟩
    all_goals
      cases own
    all_goals
      rcases hr with rfl | rfl | rfl
    all_goals
      go_enter Try.func9, Try.ntmps9
      go_wp2_with (first
        | (go_at_call 11; (with_reducible refine (KR.out _).mono ?_); rintro e w1 ⟨rfl, rfl⟩; clear KR)
        | (go_at_call 11; (with_reducible refine (KF.out _).mono ?_); rintro e w1 ⟨rfl, rfl⟩))
    all_goals
        have hbf := HBF.out
        go_ret
        refine ⟨ret_val (congrArg Value.bool ?_), rfl⟩
        rw [Bool.eq_iff_iff, decide_eq_true_iff]
        unfold mayP
        simp only [beq_iff_eq, beq_eq_false_iff_ne, ne_eq, decide_eq_true_eq, decide_eq_false_iff_not] at *
        clear KF HBF
        (try simp at hbf) <;> (try simp) <;> (try omega)
  · have KR := hide (word_no hr)
    go_enter Try.func9, Try.ntmps9
    go_wp2_with (go_at_call 11; refine (KR.out _).mono ?_; rintro e w1 ⟨rfl, rfl⟩)
    go_ret
    exact ⟨ret_no (fun h => hr h.1), rfl⟩

theorem mayS_iff {role verb : Int} {own : Bool} {whom fresh : Int} : mayS role verb own whom fresh = true ↔ mayP role verb own whom fresh := decide_eq_true_iff
theorem ret_of {e : Ending} {w w' : World} (h : e = .returned (.bool true) ∧ w = w') : ∃ v, e = .returned v ∧ Ext w w' ∧ v = .bool true := ⟨_, h.1, Ext.of_eq h.2.symm, rfl⟩
theorem may_one : mayS 2 1 false 0 1 = true := by decide
theorem may_two : mayS 2 1 false 0 2 = false := by decide
set_option maxRecDepth 20000 in
theorem awake_any (w : World) : Calls Try.prog 7 #[] w fun e w' => e = .returned (.bool true) ∧ w = w' := by
  have K1 := hide fun W => (by have h := may_any 2 1 false 0 1 W; rw [may_one] at h; exact h : Calls Try.prog 8 #[.int .u8 2, .int .u8 1, .bool false, .int .u8 0, .int .u8 1] W fun e w' => e = .returned (.bool true) ∧ W = w')
  have K2 := hide fun W => (by have h := may_any 2 1 false 0 2 W; rw [may_two] at h; exact h : Calls Try.prog 8 #[.int .u8 2, .int .u8 1, .bool false, .int .u8 0, .int .u8 2] W fun e w' => e = .returned (.bool false) ∧ W = w')
  go_enter Try.func7, Try.ntmps7
  go_wp2_with (first
    | (go_at_call 8; (with_reducible refine (K1.out _).mono ?_); rintro e w1 ⟨rfl, rfl⟩; clear K1)
    | (go_at_call 8; (with_reducible refine (K2.out _).mono ?_); rintro e w2 ⟨rfl, rfl⟩))
  go_ret
  exact ⟨rfl, rfl⟩
end Go.Proofs.Ytakibimkkgcneaa
