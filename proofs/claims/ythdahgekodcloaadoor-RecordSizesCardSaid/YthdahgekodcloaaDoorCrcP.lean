/-
  CRC-32 as plain functions: by a table of four bits, and bit by bit; a turned bit changes it. No program is spoken of.
-/
import Derived.Test.YthdahgekodcloaaDoorByt
namespace Go.Proofs.YthdahgekodcloaaDoor

/-- The table of the sums of four bits. -/
def crcTab : List Nat := [0, 498536548, 997073096, 651767980, 1994146192, 1802195444, 1303535960, 1342533948, 3988292384, 4027552580, 3604390888, 3412177804, 2607071920, 2262029012, 2685067896, 3183342108]
def crcAt (t : Nat) : Nat := crcTab.getD t 0
/-- One bit. -/
def cb (c : Nat) : Nat := c / 2 ^^^ (if c % 2 = 1 then 3988292384 else 0)
/-- Four bits by the table. -/
def ch (c : Nat) : Nat := c / 16 ^^^ crcAt (c % 16)
/-- A byte. -/
def crcStep (c : Nat) (x : UInt8) : Nat := ch (ch (c ^^^ x.toNat))
def crcFold (l : List UInt8) : Nat := l.foldl crcStep 4294967295
def crc (l : List UInt8) : Nat := 4294967295 - crcFold l

theorem cb_xor (a b : Nat) : cb (a ^^^ b) = cb a ^^^ cb b := by
  unfold cb
  rw [Nat.xor_div_two]
  have h := @Nat.xor_mod_two_eq_one a b
  rcases Nat.mod_two_eq_zero_or_one a with ha | ha <;> rcases Nat.mod_two_eq_zero_or_one b with hb | hb <;> simp [ha, hb] at h ⊢
  · rw [Nat.xor_assoc]
  · rw [Nat.xor_assoc, Nat.xor_assoc, Nat.xor_comm (b / 2)]
  · rw [Nat.xor_assoc, Nat.xor_comm 3988292384, Nat.xor_assoc, Nat.xor_self, Nat.xor_zero]
theorem cb_even (h : Nat) : cb (2 * h) = h := by unfold cb; simp [Nat.mul_mod_right]
theorem cb4_small : ∀ t, t < 16 → cb (cb (cb (cb t))) = crcAt t := by decide
theorem sixteen (c : Nat) : 2 * (2 * (2 * (2 * (c / 16)))) ^^^ c % 16 = c := by
  have h := Nat.shiftLeft_add_eq_or_of_lt (i := 4) (b := c % 16) (Nat.mod_lt _ (by decide)) (c / 16)
  have e : 2 * (2 * (2 * (2 * (c / 16)))) = c / 16 * 2 ^ 4 := by omega
  rw [e]
  apply Nat.eq_of_testBit_eq
  intro i
  rw [Nat.testBit_xor]
  by_cases hi : i < 4
  · have h1 : (c / 16 * 2 ^ 4).testBit i = false := by rw [Nat.testBit_mul_two_pow, decide_eq_false (by omega), Bool.false_and]
    have h2 : (c % 16).testBit i = c.testBit i := by rw [show (16 : Nat) = 2 ^ 4 from rfl, Nat.testBit_mod_two_pow]; simp [hi]
    rw [h1, h2]; simp
  · have h1 : (c / 16 * 2 ^ 4).testBit i = c.testBit i := by
      rw [Nat.testBit_mul_two_pow, show c / 16 = c / 2 ^ 4 from rfl, Nat.testBit_div_two_pow]
      simp [show 4 ≤ i from by omega]
    have h2 : (c % 16).testBit i = false := by rw [show (16 : Nat) = 2 ^ 4 from rfl, Nat.testBit_mod_two_pow]; simp [hi]
    rw [h1, h2]; simp
theorem ch_bits (c : Nat) : ch c = cb (cb (cb (cb c))) := by
  have hs := sixteen c
  have : cb (cb (cb (cb c))) = cb (cb (cb (cb (2 * (2 * (2 * (2 * (c / 16)))) ^^^ c % 16)))) := by rw [hs]
  rw [this]
  simp only [cb_xor, cb_even]
  rw [cb4_small _ (Nat.mod_lt _ (by decide))]
  rfl

/-- The document's own step: bit k of the byte. -/
def rb (x : Nat) (s k : Nat) : Nat := s / 2 ^^^ (if (s % 2 ^^^ x / 2 ^ k % 2) = 1 then 3988292384 else 0)
def rbs (x : Nat) (s : Nat) : Nat → Nat
  | 0 => s
  | k + 1 => rb x (rbs x s k) k
def cbs (c : Nat) : Nat → Nat
  | 0 => c
  | k + 1 => cb (cbs c k)
theorem rbs_cbs (x s k : Nat) : rbs x s k ^^^ x / 2 ^ k = cbs (s ^^^ x) k := by
  induction k with
  | zero => simp [rbs, cbs]
  | succ k ih =>
    simp only [rbs, cbs]
    rw [← ih]
    unfold rb cb
    rw [Nat.xor_div_two, Nat.pow_succ, ← Nat.div_div_eq_div_mul]
    have h := @Nat.xor_mod_two_eq_one (rbs x s k) (x / 2 ^ k)
    have e : ((rbs x s k % 2 ^^^ x / 2 ^ k % 2) = 1) ↔ ((rbs x s k ^^^ x / 2 ^ k) % 2 = 1) := by
      rw [h]
      rcases Nat.mod_two_eq_zero_or_one (rbs x s k) with ha | ha <;> rcases Nat.mod_two_eq_zero_or_one (x / 2 ^ k) with hb | hb <;> simp [ha, hb]
    by_cases hc : (rbs x s k ^^^ x / 2 ^ k) % 2 = 1
    · rw [if_pos (e.2 hc), if_pos hc, Nat.xor_assoc, Nat.xor_assoc, Nat.xor_comm 3988292384]
    · rw [if_neg (fun h => hc (e.1 h)), if_neg hc, Nat.xor_zero, Nat.xor_zero]
theorem rbs_eight (x : UInt8) (s : Nat) : rbs x.toNat s 8 = crcStep s x := by
  have h := rbs_cbs x.toNat s 8
  have hx : x.toNat / 2 ^ 8 = 0 := Nat.div_eq_of_lt x.toNat_lt
  rw [hx, Nat.xor_zero] at h
  rw [h]
  unfold crcStep
  rw [ch_bits, ch_bits]
  rfl

theorem lt32_xor {a b : Nat} (ha : a < 4294967296) (hb : b < 4294967296) : a ^^^ b < 4294967296 := Nat.xor_lt_two_pow (n := 32) ha hb
theorem crcAt_lt (t : Nat) : crcAt t < 4294967296 := by
  by_cases h : t < 16
  · revert t; decide
  · unfold crcAt
    rw [List.getD_eq_getElem?_getD, List.getElem?_eq_none (by simp [crcTab]; omega)]; decide
theorem cb_lt {c : Nat} (h : c < 4294967296) : cb c < 4294967296 := by
  unfold cb
  refine lt32_xor (by omega) ?_
  split <;> omega
theorem ch_lt {c : Nat} (h : c < 4294967296) : ch c < 4294967296 := lt32_xor (by omega) (crcAt_lt _)
theorem crcStep_lt {c : Nat} (x : UInt8) (h : c < 4294967296) : crcStep c x < 4294967296 := ch_lt (ch_lt (lt32_xor h (by have := x.toNat_lt; omega)))
theorem rb_lt {x s k : Nat} (h : s < 4294967296) : rb x s k < 4294967296 := by
  unfold rb
  refine lt32_xor (by omega) ?_
  split <;> omega
theorem rbs_lt {x s : Nat} (h : s < 4294967296) : ∀ k, rbs x s k < 4294967296
  | 0 => h
  | k + 1 => rb_lt (rbs_lt h k)
theorem fold_lt (l : List UInt8) : ∀ c, c < 4294967296 → l.foldl crcStep c < 4294967296 := by
  induction l with
  | nil => intro c h; exact h
  | cons x l ih => intro c h; exact ih _ (crcStep_lt x h)
theorem crcFold_lt (l : List UInt8) : crcFold l < 4294967296 := fold_lt l _ (by decide)
theorem crcFold_snoc (l : List UInt8) (x : UInt8) : crcFold (l ++ [x]) = crcStep (crcFold l) x := by simp [crcFold]

/-- Bit 31 tells whether the bit that went out was one. -/
theorem cb_inj {a b : Nat} (ha : a < 4294967296) (hb : b < 4294967296) (h : cb a = cb b) : a = b := by
  have top : ∀ c, c < 4294967296 → (cb c).testBit 31 = decide (c % 2 = 1) := fun c hc => by
    unfold cb
    rw [Nat.testBit_xor, Nat.testBit_lt_two_pow (x := c / 2) (i := 31) (by omega)]
    by_cases h : c % 2 = 1
    · simp [h]; decide
    · simp [h]
  have t1 := top a ha
  rw [h, top b hb] at t1
  have hp : (a % 2 = 1) ↔ (b % 2 = 1) := by
    constructor
    · intro h1; rw [decide_eq_true h1] at t1; exact of_decide_eq_true t1
    · intro h1; rw [decide_eq_true h1] at t1; exact of_decide_eq_true t1.symm
  unfold cb at h
  have hd : a / 2 = b / 2 := by
    by_cases h1 : a % 2 = 1
    · rw [if_pos h1, if_pos (hp.1 h1)] at h
      have := congrArg (· ^^^ 3988292384) h
      simpa [Nat.xor_assoc, Nat.xor_self, Nat.xor_zero] using this
    · rw [if_neg h1, if_neg (fun h2 => h1 (hp.2 h2))] at h
      simpa using h
  omega
theorem ch_inj {a b : Nat} (ha : a < 4294967296) (hb : b < 4294967296) (h : ch a = ch b) : a = b := by
  rw [ch_bits, ch_bits] at h
  exact cb_inj ha hb (cb_inj (cb_lt ha) (cb_lt hb) (cb_inj (cb_lt (cb_lt ha)) (cb_lt (cb_lt hb)) (cb_inj (cb_lt (cb_lt (cb_lt ha))) (cb_lt (cb_lt (cb_lt hb))) h)))
theorem xor_cancel {a b c : Nat} (h : a ^^^ c = b ^^^ c) : a = b := by
  have := congrArg (· ^^^ c) h
  simpa [Nat.xor_assoc, Nat.xor_self, Nat.xor_zero] using this
theorem crcStep_inj {a b : Nat} (x : UInt8) (ha : a < 4294967296) (hb : b < 4294967296) (h : crcStep a x = crcStep b x) : a = b := by
  have hx : x.toNat < 4294967296 := by have := x.toNat_lt; omega
  exact xor_cancel (ch_inj (lt32_xor ha hx) (lt32_xor hb hx) (ch_inj (ch_lt (lt32_xor ha hx)) (ch_lt (lt32_xor hb hx)) h))
theorem crcStep_byte {c : Nat} (x y : UInt8) (hc : c < 4294967296) (h : crcStep c x = crcStep c y) : x = y := by
  have hx : x.toNat < 4294967296 := by have := x.toNat_lt; omega
  have hy : y.toNat < 4294967296 := by have := y.toNat_lt; omega
  have := ch_inj (lt32_xor hc hx) (lt32_xor hc hy) (ch_inj (ch_lt (lt32_xor hc hx)) (ch_lt (lt32_xor hc hy)) h)
  rw [Nat.xor_comm, Nat.xor_comm c] at this
  exact UInt8.toNat_inj.1 (xor_cancel this)
theorem fold_inj (l : List UInt8) : ∀ a b, a < 4294967296 → b < 4294967296 → l.foldl crcStep a = l.foldl crcStep b → a = b := by
  induction l with
  | nil => intro a b _ _ h; exact h
  | cons x l ih => intro a b ha hb h; exact crcStep_inj x ha hb (ih _ _ (crcStep_lt x ha) (crcStep_lt x hb) h)
/-- One byte turned: another sum. -/
theorem crc_turned (l m : List UInt8) (x y : UInt8) (h : crc (l ++ x :: m) = crc (l ++ y :: m)) : x = y := by
  have h1 := crcFold_lt (l ++ x :: m)
  have h2 := crcFold_lt (l ++ y :: m)
  unfold crc at h
  have h3 : crcFold (l ++ x :: m) = crcFold (l ++ y :: m) := by omega
  unfold crcFold at h3
  rw [List.foldl_append, List.foldl_append, List.foldl_cons, List.foldl_cons] at h3
  have hc := fold_lt l 4294967295 (by decide)
  exact crcStep_byte x y hc (fold_inj m _ _ (crcStep_lt x hc) (crcStep_lt y hc) h3)
end Go.Proofs.YthdahgekodcloaaDoor
