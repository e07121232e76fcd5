/-
  Bytes stand as numbers and as texts do: plain facts.
-/
import Derived.Test.YtakmkcfljhfkdaaDoorOctP
namespace Go.Proofs.YtakmkcfljhfkdaaDoor

theorem u8_lt (a b : UInt8) : (a < b) ↔ (a.toNat : Int) < (b.toNat : Int) := by
  rw [UInt8.lt_iff_toNat_lt]; omega
def numFrom (p : Int) (l : List UInt8) : Int := l.foldl (fun a b => a * 256 + (b.toNat : Int)) p
theorem numFrom_cons (p : Int) (a : UInt8) (l : List UInt8) : numFrom p (a :: l) = numFrom (p * 256 + (a.toNat : Int)) l := rfl
theorem numFrom_gap : ∀ (l m : List UInt8) (x y : Int), l.length = m.length → x < y → numFrom x l < numFrom y m
  | [], [], x, y, _, h => h
  | c :: l, d :: m, x, y, h, hxy => by
    rw [numFrom_cons, numFrom_cons]
    have h1 := c.toNat_lt
    have h2 := d.toNat_lt
    exact numFrom_gap l m _ _ (by simpa using h) (by omega)
/-- Lists of one length stand as the numbers that they are. -/
theorem less_num : ∀ (l m : List UInt8), l.length = m.length → ∀ p : Int, (Op.bytesLess l m = true) ↔ numFrom p l < numFrom p m
  | [], [], _, p => by simp [Op.bytesLess, numFrom]
  | a :: l, b :: m, h, p => by
    have hl : l.length = m.length := by simpa using h
    rw [numFrom_cons, numFrom_cons]
    by_cases h1 : a < b
    · have h2 := numFrom_gap l m (p * 256 + (a.toNat : Int)) (p * 256 + (b.toNat : Int)) hl (by have := (u8_lt a b).1 h1; omega)
      simp [Op.bytesLess, h1, h2]
    · by_cases h3 : a = b
      · subst h3
        rw [← less_num l m hl (p * 256 + (a.toNat : Int))]
        simp [Op.bytesLess]
      · have h4 : (b.toNat : Int) < (a.toNat : Int) := by
          have h5 : ¬ (a.toNat : Int) < (b.toNat : Int) := fun h => h1 ((u8_lt a b).2 h)
          have h6 : a.toNat ≠ b.toNat := fun h => h3 (UInt8.toNat_inj.1 h)
          omega
        have h2 := numFrom_gap m l (p * 256 + (b.toNat : Int)) (p * 256 + (a.toNat : Int)) hl.symm (by omega)
        constructor
        · intro h; simp [Op.bytesLess, h1, h3] at h
        · intro h; omega
theorem less_be64 (u v : Int) (h0 : 0 ≤ u) (h1 : u < 18446744073709551616) (h2 : 0 ≤ v) (h3 : v < 18446744073709551616) : Op.bytesLess (be64 u) (be64 v) = decide (u < v) := by
  have h := less_num (be64 u) (be64 v) rfl 0
  have e1 : numFrom 0 (be64 u) = u := num_be64 u h0 h1
  have e2 : numFrom 0 (be64 v) = v := num_be64 v h2 h3
  rw [e1, e2] at h
  rw [Bool.eq_iff_iff, h, decide_eq_true_iff]

theorem less_same (p l m : List UInt8) : Op.bytesLess (p ++ l) (p ++ m) = Op.bytesLess l m := by
  induction p with
  | nil => rfl
  | cons a p ih => simp [Op.bytesLess, ih]
theorem less_irrefl (l : List UInt8) : Op.bytesLess l l = false := by
  induction l with
  | nil => rfl
  | cons a l ih => simp [Op.bytesLess, ih]
theorem zero_lt (c : UInt8) (h : c ≠ 0) : (0 : UInt8) < c := by
  rw [UInt8.lt_iff_toNat_lt]
  have : c.toNat ≠ 0 := fun e => h (UInt8.toNat_inj.1 e)
  show 0 < c.toNat
  omega
theorem not_lt_zero (c : UInt8) : ¬ c < (0 : UInt8) := by
  rw [UInt8.lt_iff_toNat_lt]
  show ¬ c.toNat < 0
  omega
/-- Texts as bytes stand as they do, whatever comes behind them. -/
theorem less_text : ∀ (s t x y : List UInt8), s ≠ t → Op.bytesLess (text s ++ x) (text t ++ y) = Op.bytesLess s t
  | [], [], _, _, h => absurd rfl h
  | [], c :: t, x, y, _ => by
    by_cases hc : c = 0
    · subst hc
      simp [text, esc, Op.bytesLess]
    · simp [text, esc, hc, Op.bytesLess, zero_lt c hc]
  | b :: s, [], x, y, _ => by
    by_cases hb : b = 0
    · subst hb
      simp [text, esc, Op.bytesLess]
    · simp [text, esc, hb, Op.bytesLess, not_lt_zero b]
  | b :: s, c :: t, x, y, h => by
    by_cases hbc : b = c
    · subst hbc
      have ih := less_text s t x y (fun e => h (by rw [e]))
      unfold text at ih
      by_cases hb : b = 0
      · subst hb
        simp only [text, esc, if_true, List.cons_append, Op.bytesLess]
        simp only [ih]
        simp
      · simp only [text, esc, if_neg hb, List.cons_append, Op.bytesLess, ih]
    · by_cases hb : b = 0
      · subst hb
        have hc : c ≠ 0 := fun e => hbc e.symm
        simp [text, esc, hc, Op.bytesLess, zero_lt c hc]
      · by_cases hc : c = 0
        · subst hc
          have e : (b == 0) = false := beq_eq_false_iff_ne.2 hb
          simp [text, esc, hb, Op.bytesLess, not_lt_zero b, e]
        · have e : (b == c) = false := beq_eq_false_iff_ne.2 hbc
          simp [text, esc, hb, hc, Op.bytesLess, e]
end Go.Proofs.YtakmkcfljhfkdaaDoor
