/-
  The reference's ways to the same sums: a word by its bytes, choice and majority by 'or', all the bytes padded at once. No program is spoken of.
-/
import Derived.Test.YtmanflfanoddgaaDoorShaP
namespace Go.Proofs.YtmanflfanoddgaaDoor

theorem or_add (n a b : Nat) (h : b < 2 ^ n) : a * 2 ^ n ||| b = a * 2 ^ n + b := by
  rw [Nat.mul_comm, ← Nat.two_pow_add_eq_or_of_lt h]
theorem word4_add (a b c d : Nat) (hb : b < 256) (hc : c < 256) (hd : d < 256) : word4 a b c d = ((a * 256 + b) * 256 + c) * 256 + d := by
  unfold word4
  have h1 := or_add 24 a (b * 65536) (by omega)
  have h2 := or_add 16 (a * 256 + b) (c * 256) (by omega)
  have h3 := or_add 8 ((a * 256 + b) * 256 + c) d (by omega)
  rw [show (2 : Nat) ^ 24 = 16777216 from rfl] at h1
  rw [show (2 : Nat) ^ 16 = 65536 from rfl] at h2
  rw [show (2 : Nat) ^ 8 = 256 from rfl] at h3
  rw [h1, show a * 16777216 + b * 65536 = (a * 256 + b) * 65536 by omega, h2, show (a * 256 + b) * 65536 + c * 256 = ((a * 256 + b) * 256 + c) * 256 by omega, h3]
/-- A word so far, from k of its bytes. -/
def partW (l : List UInt8) (i : Nat) : Nat → Nat
  | 0 => 0
  | k + 1 => (partW l i k * 256 + byteAt l (4 * i + k)) % 4294967296
theorem partW_four (l : List UInt8) (i : Nat) : partW l i 4 = word4 (byteAt l (4 * i)) (byteAt l (4 * i + 1)) (byteAt l (4 * i + 2)) (byteAt l (4 * i + 3)) := by
  have h0 := byteAt_lt l (4 * i)
  have h1 := byteAt_lt l (4 * i + 1)
  have h2 := byteAt_lt l (4 * i + 2)
  have h3 := byteAt_lt l (4 * i + 3)
  rw [word4_add _ _ _ _ h1 h2 h3]
  simp only [partW, Nat.add_zero]
  omega
theorem chf_or (x y z : Nat) (hx : x < 4294967296) : (x &&& y) ||| ((4294967295 - x) &&& z) = chf x y z := by
  unfold chf
  apply Nat.eq_of_testBit_eq
  intro i
  have h := Nat.testBit_two_pow_sub_succ (n := 32) (x := x) hx i
  rw [show 2 ^ 32 - (x + 1) = 4294967295 - x by omega] at h
  simp only [Nat.testBit_or, Nat.testBit_xor, Nat.testBit_and, h]
  cases x.testBit i <;> cases y.testBit i <;> cases z.testBit i <;> simp
theorem maj_or (x y z : Nat) : ((x &&& y) ||| (x &&& z)) ||| (y &&& z) = maj x y z := by
  unfold maj
  apply Nat.eq_of_testBit_eq
  intro i
  simp only [Nat.testBit_or, Nat.testBit_xor, Nat.testBit_and]
  cases x.testBit i <;> cases y.testBit i <;> cases z.testBit i <;> rfl
theorem absS_append (s : Sta) (a b : List UInt8) (m : Nat) (ha : a.length = 64 * m) (n : Nat) : absS s (a ++ b) (m + n) = absS (absS s a m) b n := by
  induction n with
  | zero =>
    rw [Nat.add_zero, absS]
    have : ∀ k, k ≤ m → absS s (a ++ b) k = absS s a k := by
      intro k
      induction k with
      | zero => intro _; rfl
      | succ k ih =>
        intro hk
        rw [absS, absS, ih (by omega), List.drop_append_of_le_length (by omega), List.take_append_of_le_length (by rw [List.length_drop]; omega)]
    exact this m (Nat.le_refl m)
  | succ n ih =>
    rw [← Nat.add_assoc, absS, absS, ih, show 64 * (m + n) = a.length + 64 * n by omega, List.drop_append]
    rw [List.drop_of_length_le (show a.length ≤ a.length + 64 * n by omega), List.nil_append, Nat.add_sub_cancel_left]
theorem absorb_append (s : Sta) (a b : List UInt8) (h : a.length % 64 = 0) : absorb s (a ++ b) = absorb (absorb s a) b := by
  unfold absorb
  have e : (a ++ b).length / 64 = a.length / 64 + b.length / 64 := by rw [List.length_append]; omega
  rw [e]
  exact absS_append s a b (a.length / 64) (by omega) (b.length / 64)
/-- All the bytes, padded. -/
def padS (l : List UInt8) (n : Nat) : List UInt8 := l ++ [128] ++ List.replicate n 0
def fullS (l : List UInt8) : List UInt8 := padS l (padLen l.length) ++ be8 (8 * l.length % 18446744073709551616)
theorem padLen_mod (n : Nat) : padLen (n % 64) = padLen n := by unfold padLen; omega
theorem padS_length (l : List UInt8) (n : Nat) : (padS l n).length = l.length + 1 + n := by simp [padS]; omega
theorem pad_done (l : List UInt8) : (padS l (padLen l.length)).length % 64 = 56 := by rw [padS_length]; unfold padLen; omega
theorem pad_more (l : List UInt8) (n : Nat) (h : n ≤ padLen l.length) (hm : (padS l n).length % 64 ≠ 56) : n < padLen l.length := by
  rcases Nat.lt_or_ge n (padLen l.length) with h1 | h1
  · exact h1
  · exfalso
    have : n = padLen l.length := by omega
    rw [this] at hm
    exact hm (pad_done l)
theorem pad_end (l : List UInt8) (n : Nat) (h : n ≤ padLen l.length) (hm : (padS l n).length % 64 = 56) : n = padLen l.length := by
  rw [padS_length] at hm
  unfold padLen at *
  omega
theorem fullS_length (l : List UInt8) : (fullS l).length % 64 = 0 := by
  unfold fullS
  rw [List.length_append]
  have := pad_done l
  have h8 : (be8 (8 * l.length % 18446744073709551616)).length = 8 := rfl
  omega
theorem sha_full (l : List UInt8) : sha l = (absorb start0 (fullS l)).out := by
  unfold sha sumS
  have hw : (l.take (l.length - l.length % 64)).length = l.length - l.length % 64 := by simp
  rw [← absorb_append _ _ _ (by rw [hw]; omega)]
  congr 2
  unfold endingS fullS padS
  have hd : (l.drop (l.length - l.length % 64)).length = l.length % 64 := by rw [List.length_drop]; omega
  rw [hd, padLen_mod, Nat.zero_add]
  simp only [← List.append_assoc, List.take_append_drop]
/-- The eight bytes behind, as many as are there. -/
theorem be8_next (n k : Nat) (h : k < 8) : (be8 n).take (k + 1) = (be8 n).take k ++ [b8n (n / 2 ^ (8 * (7 - k)))] := by
  rcases k with _ | _ | _ | _ | _ | _ | _ | _ | k
  case succ.succ.succ.succ.succ.succ.succ.succ => omega
  all_goals simp [be8]
end Go.Proofs.YtmanflfanoddgaaDoor
