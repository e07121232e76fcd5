/-
  Texts and numbers one behind the other, and how they are read again.
-/
import Derived.Test.YtakmkcfljhfkdaaDoorLstP
import Derived.Test.YtakmkcfljhfkdaaDoorOctO
import Derived.Test.YtakmkcfljhfkdaaDoorOctR
namespace Go.Proofs.YtakmkcfljhfkdaaDoor
open Go.RowKit

/-- Texts, behind each of them a number as long as there is one. -/
def runs : List (List UInt8) → List Int → List UInt8
  | [], _ => []
  | s :: r, [] => text s ++ runs r []
  | s :: r, n :: m => text s ++ ord64 n ++ runs r m
theorem runs_split (k : Nat) : ∀ (a : List (List UInt8)) (b : List Int), runs a b = runs (a.take k) (b.take k) ++ runs (a.drop k) (b.drop k) := by
  induction k with
  | zero => intro a b; simp [runs]
  | succ k ih =>
    intro a b
    cases a with
    | nil => simp [runs]
    | cons s r =>
      cases b with
      | nil =>
        have := ih r []
        simp only [List.take_nil, List.drop_nil] at this
        simp only [runs, List.take_succ_cons, List.drop_succ_cons, List.take_nil, List.drop_nil]
        rw [this]; simp
      | cons n m => simp only [runs, List.take_succ_cons, List.drop_succ_cons]; rw [ih r m]; simp
theorem ord64_length (n : Int) : (ord64 n).length = 8 := rfl
theorem runs_length (a : List (List UInt8)) (b : List Int) : (runs a b).length ≤ 2 * total a + 8 * a.length := by
  induction a generalizing b with
  | nil => simp [runs, total]
  | cons s r ih =>
    have := text_length s
    cases b with
    | nil => have := ih []; simp only [runs, total, List.length_append, List.length_cons] at *; omega
    | cons n m => have := ih m; simp only [runs, total, List.length_append, List.length_cons, ord64_length] at *; omega
/-- One text more, and no number. -/
theorem runs_text (a : List (List UInt8)) (b : List Int) (k : Nat) (s : List UInt8) (hs : a[k]? = some s) (hb : b.length ≤ k) :
    runs (a.take (k + 1)) (b.take (k + 1)) = runs (a.take k) (b.take k) ++ text s ∧ ∃ r, runs a b = runs (a.take k) (b.take k) ++ text s ++ r := by
  have h1 := runs_split k (a.take (k + 1)) (b.take (k + 1))
  have h2 := runs_split (k + 1) a b
  have e1 : (a.take (k + 1)).drop k = [s] := by rw [List.take_add_one, hs]; simp; have := (List.getElem?_eq_some_iff.1 hs).1; rw [List.drop_append_of_le_length (by simp; omega)]; simp
  have e2 : (b.take (k + 1)).drop k = [] := List.drop_of_length_le (by simp; omega)
  rw [e1, e2, List.take_take, List.take_take, Nat.min_eq_left (by omega)] at h1
  have h3 : runs (a.take (k + 1)) (b.take (k + 1)) = runs (a.take k) (b.take k) ++ text s := by rw [h1]; simp [runs]
  exact ⟨h3, _, by rw [h2, h3]⟩
/-- One text more, and one number. -/
theorem runs_both (a : List (List UInt8)) (b : List Int) (k : Nat) (s : List UInt8) (n : Int) (hs : a[k]? = some s) (hb : b[k]? = some n) :
    runs (a.take (k + 1)) (b.take (k + 1)) = runs (a.take k) (b.take k) ++ text s ++ ord64 n ∧ ∃ r, runs a b = runs (a.take k) (b.take k) ++ text s ++ ord64 n ++ r := by
  have h1 := runs_split k (a.take (k + 1)) (b.take (k + 1))
  have h2 := runs_split (k + 1) a b
  have e1 : (a.take (k + 1)).drop k = [s] := by rw [List.take_add_one, hs]; simp; have := (List.getElem?_eq_some_iff.1 hs).1; rw [List.drop_append_of_le_length (by simp; omega)]; simp
  have e2 : (b.take (k + 1)).drop k = [n] := by rw [List.take_add_one, hb]; simp; have := (List.getElem?_eq_some_iff.1 hb).1; rw [List.drop_append_of_le_length (by simp; omega)]; simp
  rw [e1, e2, List.take_take, List.take_take, Nat.min_eq_left (by omega)] at h1
  have h3 : runs (a.take (k + 1)) (b.take (k + 1)) = runs (a.take k) (b.take k) ++ text s ++ ord64 n := by rw [h1]; simp [runs]
  exact ⟨h3, _, by rw [h2, h3]⟩
theorem runs_whole (a : List (List UInt8)) (b : List Int) : runs (a.take a.length) (b.take a.length) = runs a b := by
  have := runs_split a.length a b
  rw [List.drop_length] at this
  rw [this]; simp [runs]

theorem parse_run (s r : List UInt8) : parse (esc s ++ 0 :: 1 :: r) = some (s, (esc s).length + 2) := by
  induction s with
  | nil => simp [esc, parse]
  | cons b s ih =>
    by_cases hb : b = 0
    · subst hb
      simp only [esc, if_true, List.cons_append]
      simp [parse, ih]
    · simp only [esc, if_neg hb, List.cons_append]
      cases he : esc s ++ 0 :: 1 :: r with
      | nil => simp at he
      | cons c t =>
        rw [he] at ih
        simp only [parse, ne_eq, hb, not_false_iff, if_true, ih]
        simp
theorem read_run (z a s b : List UInt8) (p : Nat) (hz : z = a ++ text s ++ b) (hp : p = a.length) : rdTxt z (p : Int) = (s, ((p + (text s).length : Nat) : Int), 0) := by
  subst hz hp
  have h : parse ((a ++ text s ++ b).drop a.length) = some (s, (text s).length) := by
    rw [List.append_assoc, List.drop_left]
    have e := parse_run s b
    unfold text
    rw [List.append_assoc]
    simpa using e
  rw [rdTxt_some _ a.length (by simp) s (text s).length h]
  simp
theorem read_num (z a b : List UInt8) (n : Int) (p : Nat) (hz : z = a ++ ord64 n ++ b) (hp : p = a.length) (h0 : -9223372036854775808 ≤ n) (h1 : n < 9223372036854775808) : rdOrd z (p : Int) = (n, ((p + 8 : Nat) : Int), 0) := by
  subst hz hp
  have e : rdNum (a ++ ord64 n ++ b) (a.length : Int) = (n + 9223372036854775808, ((a.length + 8 : Nat) : Int), 0) := by
    unfold rdNum
    rw [if_neg (by simp only [List.length_append, ord64_length]; omega), if_neg (by simp only [List.length_append, ord64_length]; omega), Int.toNat_natCast, List.append_assoc, List.drop_left, List.take_left' (ord64_length n)]
    unfold ord64
    rw [num_be64 _ (by omega) (by omega)]
    simp
  unfold rdOrd
  rw [e]
  simp
end Go.Proofs.YtakmkcfljhfkdaaDoor
