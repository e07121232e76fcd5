/-
  Plain functions of layer 2 (octet): what numbers and texts are as bytes. No program is spoken of.
-/
import Derived.Test.YthdahgekodcloaaDoorOwn
namespace Go.Proofs.YthdahgekodcloaaDoor

/-- The eight bytes of a number, the highest first. -/
def be64 (u : Int) : List UInt8 :=
  [b8 (u / 72057594037927936 % 256), b8 (u / 281474976710656 % 256), b8 (u / 1099511627776 % 256), b8 (u / 4294967296 % 256),
   b8 (u / 16777216 % 256), b8 (u / 65536 % 256), b8 (u / 256 % 256), b8 (u % 256)]
theorem be64_length (u : Int) : (be64 u).length = 8 := rfl
theorem be64_cells (u : Int) (h0 : 0 ≤ u) (h1 : u < 18446744073709551616) : bs (be64 u) =
    [.int .u8 (u / 72057594037927936), .int .u8 (u / 281474976710656 % 256), .int .u8 (u / 1099511627776 % 256), .int .u8 (u / 4294967296 % 256),
     .int .u8 (u / 16777216 % 256), .int .u8 (u / 65536 % 256), .int .u8 (u / 256 % 256), .int .u8 (u % 256)] := by
  have e : u / 72057594037927936 % 256 = u / 72057594037927936 := by omega
  unfold be64 bs
  simp only [List.map_cons, List.map_nil]
  rw [b8_toNat (by omega) (by omega), b8_toNat (by omega) (by omega), b8_toNat (by omega) (by omega), b8_toNat (by omega) (by omega), b8_toNat (by omega) (by omega),
    b8_toNat (by omega) (by omega), b8_toNat (by omega) (by omega), b8_toNat (by omega) (by omega), e]

/-- The number that bytes are, the highest first. -/
def num (l : List UInt8) : Int := l.foldl (fun a b => a * 256 + (b.toNat : Int)) 0
theorem num_snoc (l : List UInt8) (b : UInt8) : num (l ++ [b]) = num l * 256 + (b.toNat : Int) := by simp [num]
theorem num_from (l : List UInt8) : ∀ a : Int, 0 ≤ a → 0 ≤ l.foldl (fun a b => a * 256 + (b.toNat : Int)) a ∧ l.foldl (fun a b => a * 256 + (b.toNat : Int)) a < (a + 1) * 256 ^ l.length := by
  induction l with
  | nil => intro a h; simp; omega
  | cons b l ih =>
    intro a h
    have hb := b.toNat_lt
    have := ih (a * 256 + (b.toNat : Int)) (by omega)
    refine ⟨this.1, Int.lt_of_lt_of_le this.2 ?_⟩
    rw [List.length_cons, Int.pow_succ, Int.mul_comm (256 ^ l.length) 256, ← Int.mul_assoc]
    exact Int.mul_le_mul_of_nonneg_right (by omega) (Int.le_of_lt (Int.pow_pos (by omega)))
theorem num_bound (l : List UInt8) : 0 ≤ num l ∧ num l < 256 ^ l.length := by
  have := num_from l 0 (by omega)
  unfold num
  simpa using this
theorem num_be64 (u : Int) (h0 : 0 ≤ u) (h1 : u < 18446744073709551616) : num (be64 u) = u := by
  unfold num be64
  simp only [List.foldl_cons, List.foldl_nil]
  rw [b8_toNat (by omega) (by omega), b8_toNat (by omega) (by omega), b8_toNat (by omega) (by omega), b8_toNat (by omega) (by omega), b8_toNat (by omega) (by omega),
    b8_toNat (by omega) (by omega), b8_toNat (by omega) (by omega), b8_toNat (by omega) (by omega)]
  omega

theorem num_step (l : List UInt8) (k j : Nat) (x : UInt8) (h : l[k + j]? = some x) : num ((l.drop k).take (j + 1)) = num ((l.drop k).take j) * 256 + (x.toNat : Int) := by
  have h' : (l.drop k)[j]? = some x := by rw [List.getElem?_drop]; exact h
  rw [List.take_add_one, h', Option.toList_some, num_snoc]
theorem num_take_lt (l : List UInt8) (j : Nat) (h : j ≤ 7) : num (l.take j) < 72057594037927936 := by
  have h1 := (num_bound (l.take j)).2
  have h3 : 256 ^ (l.take j).length ≤ 256 ^ 7 := Nat.pow_le_pow_right (by omega) (Nat.le_trans (List.length_take_le _ _) h)
  have h2 : ((256 ^ (l.take j).length : Nat) : Int) ≤ ((256 ^ 7 : Nat) : Int) := Int.ofNat_le.2 h3
  rw [Int.natCast_pow] at h2
  have h4 : ((256 ^ 7 : Nat) : Int) = 72057594037927936 := by decide
  have h5 : (256 : Int) ^ (l.take j).length ≤ 72057594037927936 := by rw [← h4]; exact h2
  exact Int.lt_of_lt_of_le h1 h5
theorem num_take_lt8 (l : List UInt8) : 0 ≤ num (l.take 8) ∧ num (l.take 8) < 18446744073709551616 := by
  have h := num_bound (l.take 8)
  have h3 : 256 ^ (l.take 8).length ≤ 256 ^ 8 := Nat.pow_le_pow_right (by omega) (List.length_take_le _ _)
  have h2 : ((256 ^ (l.take 8).length : Nat) : Int) ≤ ((256 ^ 8 : Nat) : Int) := Int.ofNat_le.2 h3
  rw [Int.natCast_pow] at h2
  have h4 : ((256 ^ 8 : Nat) : Int) = 18446744073709551616 := by decide
  have h5 : (256 : Int) ^ (l.take 8).length ≤ 18446744073709551616 := by rw [← h4]; exact h2
  exact ⟨h.1, Int.lt_of_lt_of_le h.2 h5⟩
theorem or_low (a b : Nat) (hb : b < 256) : a * 256 ||| b = a * 256 + b := by
  have := Nat.shiftLeft_add_eq_or_of_lt (i := 8) (b := b) (by omega) a
  rw [Nat.shiftLeft_eq] at this
  exact this.symm
theorem or_byte (a b : Int) (ha0 : 0 ≤ a) (ha1 : a < 72057594037927936) (hb0 : 0 ≤ b) (hb1 : b < 256) :
    bits .or .u64 (IntKind.u64.wrap (a * 256)) (IntKind.u64.wrap b) = a * 256 + b := by
  have e1 : IntKind.u64.wrap (a * 256) = ((a.toNat * 256 : Nat) : Int) := by rw [IntKind.wrap_u64]; omega
  have e2 : IntKind.u64.wrap b = ((b.toNat : Nat) : Int) := by rw [IntKind.wrap_u64]; omega
  rw [e1, e2]
  show IntKind.u64.wrap ((BitVec.ofInt 64 ((a.toNat * 256 : Nat) : Int) ||| BitVec.ofInt 64 ((b.toNat : Nat) : Int)).toNat : Int) = _
  rw [BitVec.toNat_or, BitVec.ofInt_natCast, BitVec.ofInt_natCast, BitVec.toNat_ofNat, BitVec.toNat_ofNat,
    Nat.mod_eq_of_lt (show a.toNat * 256 < 2 ^ 64 by omega), Nat.mod_eq_of_lt (show b.toNat < 2 ^ 64 by omega), or_low _ _ (by omega), IntKind.wrap_u64]
  omega

/-- A text's bytes with ff behind each 00. -/
def esc : List UInt8 → List UInt8
  | [] => []
  | b :: l => if b = 0 then 0 :: 255 :: esc l else b :: esc l
theorem esc_append (l m : List UInt8) : esc (l ++ m) = esc l ++ esc m := by
  induction l with
  | nil => rfl
  | cons b l ih => simp only [List.cons_append, esc]; split <;> simp [ih]
theorem esc_length (l : List UInt8) : l.length ≤ (esc l).length ∧ (esc l).length ≤ 2 * l.length := by
  induction l with
  | nil => simp [esc]
  | cons b l ih => simp only [esc]; split <;> simp <;> omega
/-- A text as bytes. -/
def text (l : List UInt8) : List UInt8 := esc l ++ [0, 1]
end Go.Proofs.YthdahgekodcloaaDoor
