/-
  The reference's numbers of 256 bits, its roots and its primes as plain functions. No program is spoken of.
-/
import Derived.Test.YtmanflfanoddgaaDoorShaP
namespace Go.Proofs.YtmanflfanoddgaaDoor

/-- What the parts of 32 bits are together, the lowest first. -/
def num : List Nat → Nat
  | [] => 0
  | a :: l => a + 4294967296 * num l
def Small (l : List Nat) : Prop := ∀ a ∈ l, a < 4294967296
structure Parts (l : List Nat) : Prop where
  len : l.length = 8
  small : Small l
theorem Small.get {l : List Nat} (h : Small l) {i x : Nat} (hx : l[i]? = some x) : x < 4294967296 := h x (List.mem_of_getElem? hx)
theorem num_lt (l : List Nat) (h : Small l) : num l < 4294967296 ^ l.length := by
  induction l with
  | nil => decide
  | cons a l ih =>
    have h1 := ih fun x hx => h x (List.mem_cons_of_mem _ hx)
    have h2 := h a (List.mem_cons_self ..)
    rw [List.length_cons, Nat.pow_succ, num]
    generalize 4294967296 ^ l.length = q at *
    omega
theorem num_append (a b : List Nat) : num (a ++ b) = num a + 4294967296 ^ a.length * num b := by
  induction a with
  | nil => simp [num]
  | cons x a ih =>
    rw [List.cons_append, num, num, ih, List.length_cons, Nat.pow_succ, Nat.mul_add, ← Nat.mul_assoc, Nat.mul_comm 4294967296 (4294967296 ^ a.length)]
    omega
theorem num_set (l : List Nat) (i x d : Nat) (hx : l[i]? = some x) : num (l.set i d) + x * 4294967296 ^ i = num l + d * 4294967296 ^ i := by
  induction l generalizing i with
  | nil => simp at hx
  | cons a l ih =>
    rcases i with _ | i
    · simp only [List.getElem?_cons_zero, Option.some.injEq] at hx
      subst hx
      rw [List.set_cons_zero, num, num, Nat.pow_zero]
      omega
    · have h1 := ih i (by simpa using hx)
      rw [List.set_cons_succ, num, num, Nat.pow_succ, ← Nat.mul_assoc, ← Nat.mul_assoc]
      generalize x * 4294967296 ^ i = u at *
      generalize d * 4294967296 ^ i = v at *
      omega
theorem num_take (l : List Nat) (i x : Nat) (hx : l[i]? = some x) : num (l.take (i + 1)) = num (l.take i) + x * 4294967296 ^ i := by
  have hi := (List.getElem?_eq_some_iff.1 hx).1
  rw [List.take_add_one, hx, Option.toList_some, num_append, List.length_take, Nat.min_eq_left (by omega)]
  simp only [num, Nat.mul_zero, Nat.add_zero]
  rw [Nat.mul_comm]
theorem num_cut (l : List Nat) (i : Nat) (hi : i ≤ l.length) : num l = num (l.take i) + 4294967296 ^ i * num (l.drop i) := by
  have h := num_append (l.take i) (l.drop i)
  rw [List.take_append_drop, List.length_take, Nat.min_eq_left hi] at h
  exact h
theorem num_zeros (n : Nat) : num (List.replicate n 0) = 0 := by
  induction n with
  | zero => rfl
  | succ n ih => rw [List.replicate_succ, num, ih]
theorem Small.set {l : List Nat} (h : Small l) (i d : Nat) (hd : d < 4294967296) : Small (l.set i d) := fun a ha => by
  rcases List.mem_or_eq_of_mem_set ha with h1 | rfl
  · exact h a h1
  · exact hd
theorem Parts.set {l : List Nat} (h : Parts l) (i d : Nat) (hd : d < 4294967296) : Parts (l.set i d) := ⟨by rw [List.length_set]; exact h.len, h.small.set i d hd⟩
theorem Parts.lt {l : List Nat} (h : Parts l) : num l < 4294967296 ^ 8 := by have := num_lt l h.small; rwa [h.len] at this
theorem Parts.zeros : Parts (List.replicate 8 0) := ⟨rfl, fun a ha => by rw [(List.mem_replicate.1 ha).2]; decide⟩

/-- One step of a row: the place's new part and what goes over. -/
theorem mul_step (o b : List Nat) (P x y z v j k i over : Nat) (hj : j = i + k) (hz : o[j]? = some z) (hy : b[k]? = some y) (hv : v = x * y + z + over)
    (h : (num o + over * 4294967296 ^ j) % 4294967296 ^ 8 = (P + x * num (b.take k) * 4294967296 ^ i) % 4294967296 ^ 8) :
    (num (o.set j (v % 4294967296)) + v / 4294967296 * 4294967296 ^ (j + 1)) % 4294967296 ^ 8 = (P + x * num (b.take (k + 1)) * 4294967296 ^ i) % 4294967296 ^ 8 := by
  have h1 := num_set o j z (v % 4294967296) hz
  rw [num_take b k y hy, Nat.mul_add, Nat.add_mul, ← Nat.add_assoc, Nat.mul_assoc x (y * _), Nat.mul_assoc y, ← Nat.pow_add, Nat.add_comm k i, ← hj, ← Nat.mul_assoc x y]
  have h0 : (P + x * num (b.take k) * 4294967296 ^ i + x * y * 4294967296 ^ j) % 4294967296 ^ 8 = (num o + over * 4294967296 ^ j + x * y * 4294967296 ^ j) % 4294967296 ^ 8 := by
    rw [Nat.add_mod (P + _), ← h, ← Nat.add_mod]
  rw [h0]
  clear h0 h
  congr 1
  have h2 : v / 4294967296 * 4294967296 ^ (j + 1) = (4294967296 * (v / 4294967296)) * 4294967296 ^ j := by
    rw [Nat.pow_succ]
    generalize 4294967296 ^ j = q
    rw [Nat.mul_comm q 4294967296, ← Nat.mul_assoc, Nat.mul_comm _ 4294967296]
  have h3 : v * 4294967296 ^ j = (4294967296 * (v / 4294967296)) * 4294967296 ^ j + v % 4294967296 * 4294967296 ^ j := by rw [← Nat.add_mul, Nat.div_add_mod]
  have h4 : v * 4294967296 ^ j = x * y * 4294967296 ^ j + z * 4294967296 ^ j + over * 4294967296 ^ j := by rw [hv, Nat.add_mul, Nat.add_mul]
  rw [h2]
  omega
theorem mul_row (o a b : List Nat) (ho : Parts o) (hb : Parts b) (i x k over : Nat) (hik : i + k = 8) (hx : a[i]? = some x)
    (h : (num o + over * 4294967296 ^ (i + k)) % 4294967296 ^ 8 = (num (a.take i) * num b % 4294967296 ^ 8 + x * num (b.take k) * 4294967296 ^ i) % 4294967296 ^ 8) :
    num o = num (a.take (i + 1)) * num b % 4294967296 ^ 8 := by
  have h1 := ho.lt
  have h2 : (num o + over * 4294967296 ^ (i + k)) % 4294967296 ^ 8 = num o := by
    rw [hik, Nat.add_mul_mod_self_right, Nat.mod_eq_of_lt h1]
  have h3 := num_cut b k (by rw [hb.len]; omega)
  rw [← h2, h, num_take a i x hx, Nat.add_mul, Nat.mod_add_mod]
  have e : x * 4294967296 ^ i * num b = x * num (b.take k) * 4294967296 ^ i + (x * num (b.drop k)) * 4294967296 ^ 8 := by
    rw [h3, ← hik, Nat.pow_add, Nat.mul_add]
    congr 1
    · rw [Nat.mul_right_comm]
    · ac_rfl
  rw [e, ← Nat.add_assoc, Nat.add_mul_mod_self_right]
/-- Which of two is greater: the highest part in which they are unlike says. -/
theorem num_above (a b : List Nat) (ha : Parts a) (hb : Parts b) (i x y : Nat) (hx : a[i]? = some x) (hy : b[i]? = some y) (hd : a.drop (i + 1) = b.drop (i + 1)) (hn : x ≠ y) : decide (num a > num b) = decide (x > y) := by
  have hi := (List.getElem?_eq_some_iff.1 hx).1
  have hi2 := (List.getElem?_eq_some_iff.1 hy).1
  rw [num_cut a (i + 1) hi, num_cut b (i + 1) hi2, hd, num_take a i x hx, num_take b i y hy]
  have h1 : num (a.take i) < 4294967296 ^ i := by
    have := num_lt (a.take i) (fun z hz => ha.small z (List.mem_of_mem_take hz)); rwa [List.length_take, Nat.min_eq_left (by omega)] at this
  have h2 : num (b.take i) < 4294967296 ^ i := by
    have := num_lt (b.take i) (fun z hz => hb.small z (List.mem_of_mem_take hz)); rwa [List.length_take, Nat.min_eq_left (by omega)] at this
  generalize num (a.take i) = u at *
  generalize num (b.take i) = v at *
  generalize 4294967296 ^ (i + 1) * num (b.drop (i + 1)) = r at *
  generalize 4294967296 ^ i = q at *
  rw [decide_eq_decide]
  rcases Nat.lt_or_gt_of_ne hn with h | h
  · have h3 : (x + 1) * q ≤ y * q := Nat.mul_le_mul_right q h
    rw [Nat.add_mul] at h3
    constructor
    · intro; omega
    · intro; omega
  · have h3 : (y + 1) * q ≤ x * q := Nat.mul_le_mul_right q h
    rw [Nat.add_mul] at h3
    constructor
    · intro; omega
    · intro; omega
/-- The root, by halving. -/
def rootN (n p : Nat) : Nat → Nat → Nat → Nat
  | 0, low, _ => low
  | f + 1, low, high => if high - low > 1 then (if ((low + high) / 2) ^ p > n * 4294967296 ^ p then rootN n p f low ((low + high) / 2) else rootN n p f ((low + high) / 2) high) else low
/-- Is it a prime (below 324)? -/
def okTo (n d : Nat) : Bool := (List.range d).all fun e => e < 2 || e * e > n || n % e != 0
def primesL : List Nat := [2, 3, 5, 7, 11, 13, 17, 19, 23, 29, 31, 37, 41, 43, 47, 53, 59, 61, 67, 71, 73, 79, 83, 89, 97, 101, 103, 107, 109, 113, 127, 131, 137, 139, 149, 151, 157, 163, 167, 173, 179, 181, 191, 193, 197, 199, 211, 223, 227, 229, 233, 239, 241, 251, 257, 263, 269, 271, 277, 281, 283, 293, 307, 311]
def primeOf (i : Nat) : Nat := primesL.getD i 0
def lastPrime : Nat → Nat
  | 0 => 1
  | i + 1 => primeOf i
def nextOk (m p : Nat) : Bool := m < p && p ≤ 311 && okTo p 18 && (List.range p).all fun q => q ≤ m || !okTo q 18
def root32 (n p : Nat) : Nat := rootN n p 38 0 274877906944 % 4294967296
theorem primes_ok : ((List.range 64).all fun i => nextOk (lastPrime i) (primeOf i)) = true := by decide +kernel
theorem start_ok : ((List.range 8).all fun i => root32 (primeOf i) 2 == startW.getD i 0) = true := by decide +kernel
theorem round_ok : ((List.range 64).all fun i => root32 (primeOf i) 3 == roundW.getD i 0) = true := by decide +kernel
theorem okTo_succ (n d : Nat) : okTo n (d + 1) = (okTo n d && (d < 2 || d * d > n || n % d != 0)) := by
  unfold okTo
  rw [List.range_succ, List.all_append]
  simp
theorem okTo_more (n d e : Nat) (h : n < d * d) (hde : d ≤ e) : okTo n e = okTo n d := by
  induction e with
  | zero => rw [show d = 0 by omega]
  | succ e ih =>
    rcases Nat.lt_or_ge e d with h1 | h1
    · rw [show d = e + 1 by omega]
    · rw [okTo_succ, ih h1]
      have : d * d ≤ e * e := Nat.mul_le_mul h1 h1
      have h2 : decide (e * e > n) = true := by simp; omega
      rw [h2]; simp
end Go.Proofs.YtmanflfanoddgaaDoor
