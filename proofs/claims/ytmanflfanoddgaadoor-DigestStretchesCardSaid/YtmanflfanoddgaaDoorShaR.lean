/-
  Turning words, choice, majority: contracts.
-/
import Derived.Test.YtmanflfanoddgaaDoorShaP
import Derived.Test.YtmanflfanoddgaaDoorOwn
import Derived.Laws.BitsAllLaws
namespace Go.Proofs.YtmanflfanoddgaaDoor
open Go.RowKit

/-- A call that hands back this value and leaves the world as it was. -/
def Val (x : Value) (w : World) (e : Ending) (w' : World) : Prop := e = .returned x ∧ w' = w

theorem rot_mask (n m : Nat) (h : n + m = 32) (hn : 0 < n) (hm : 0 < m) : bits .and .u64 (IntKind.u64.wrap (-(n : Int))) 31 = (m : Int) := by
  have e : IntKind.u64.wrap (-(n : Int)) = ((18446744073709551616 - n : Nat) : Int) := by rw [IntKind.wrap_u64]; omega
  rw [e]
  have h1 := u64_and_nat (18446744073709551616 - n) 31 (by omega) (by omega)
  have h2 : (18446744073709551616 - n) &&& 31 = (18446744073709551616 - n) % 2 ^ 5 := Nat.and_two_pow_sub_one_eq_mod _ 5
  rw [h2] at h1
  refine h1.trans ?_
  congr 1
  omega
theorem rot_or (n m x : Nat) (h : n + m = 32) (hx : x < 4294967296) : bits .or .u32 ((x : Int) * 2 ^ m % 4294967296) ((x : Int) / 2 ^ n) = (rotr n x : Int) := by
  have e1 : (x : Int) * 2 ^ m % 4294967296 = ((x * 2 ^ m % 4294967296 : Nat) : Int) := by
    rw [show (x : Int) * 2 ^ m = ((x * 2 ^ m : Nat) : Int) by simp]
    omega
  have e2 : (x : Int) / 2 ^ n = ((x / 2 ^ n : Nat) : Int) := by simp
  rw [e1, e2, u32_or_nat _ _ (Nat.mod_lt _ (by decide)) (Nat.lt_of_le_of_lt (Nat.div_le_self _ _) hx)]
  unfold rotr
  rw [show 32 - n = m by omega]

set_option maxHeartbeats 400000 in
theorem rot_any (n : Nat) (hn : 0 < n ∧ n < 32) (x : Nat) (hx : x < 4294967296) (w : World) :
    Calls Tryd.prog 119 #[.int .u32 (x : Int), .int .i64 (-(n : Int))] w (Val (.int .u32 (rotr n x : Int)) w) := by
  obtain ⟨m, hm, h0, h1⟩ : ∃ m, n + m = 32 ∧ 0 < m ∧ m < 32 := ⟨32 - n, by omega, by omega, by omega⟩
  have e0 := rot_mask n m hm hn.1 h0
  have e1 := rot_or n m x hm hx
  have e2 : IntKind.u64.wrap (32 - (m : Int)) = (n : Int) := by rw [IntKind.wrap_u64]; omega
  have e3 : (32 - (m : Int)) = (n : Int) := by omega
  go_enter Tryd.func119, Tryd.ntmps119
  go_wp2
  go_ret
  exact ⟨rfl, rfl⟩

set_option maxHeartbeats 400000 in
theorem turned_any (a b c : Nat) (ha : 0 < a ∧ a < 32) (hb : 0 < b ∧ b < 32) (hc : 0 < c ∧ c < 32) (x : Nat) (hx : x < 4294967296) (w : World) :
    Calls Tryd.prog 110 #[.int .u32 (x : Int), .int .i64 (a : Int), .int .i64 (b : Int), .int .i64 (c : Int)] w (Val (.int .u32 (tri a b c x : Int)) w) := by
  have e1 := u32_xor_nat (rotr a x) (rotr b x) (rotr_lt _ _ hx) (rotr_lt _ _ hx)
  have e2 := u32_xor_nat (rotr a x ^^^ rotr b x) (rotr c x) (xor_lt32 (rotr_lt _ _ hx) (rotr_lt _ _ hx)) (rotr_lt _ _ hx)
  have K1 := hide (rot_any a ha x hx)
  have K2 := hide (rot_any b hb x hx)
  have K3 := hide (rot_any c hc x hx)
  go_enter Tryd.func110, Tryd.ntmps110
  go_wp2_with (first
    | (go_at_call 119; ((with_reducible refine (K1.out _).mono ?_); rintro e w1 ⟨rfl, rfl⟩))
    | (go_at_call 119; ((with_reducible refine (K2.out _).mono ?_); rintro e w2 ⟨rfl, rfl⟩))
    | (go_at_call 119; ((with_reducible refine (K3.out _).mono ?_); rintro e w3 ⟨rfl, rfl⟩)))
  go_ret
  exact ⟨rfl, rfl⟩

theorem nat_not_word (s : Nat) (h : s < 4294967296) : 4294967295 ^^^ s = 4294967295 - s := by
  have h1 := BitVec.toNat_not (x := BitVec.ofNat 32 s)
  rw [← BitVec.allOnes_xor, BitVec.toNat_xor, BitVec.toNat_allOnes, BitVec.toNat_ofNat, Nat.mod_eq_of_lt (show s < 2 ^ 32 by omega)] at h1
  exact h1
theorem not_word (s : Nat) (h : s < 4294967296) : bits .xor .u32 IntKind.u32.max (s : Int) = ((4294967295 - s : Nat) : Int) := by
  have e : IntKind.u32.max = ((4294967295 : Nat) : Int) := by decide
  have := u32_xor_nat 4294967295 s (by decide) h
  rw [nat_not_word s h] at this
  rw [e]
  exact this

set_option maxHeartbeats 400000 in
theorem choice_any (x y z : Nat) (hx : x < 4294967296) (hy : y < 4294967296) (hz : z < 4294967296) (w : World) :
    Calls Tryd.prog 111 #[.int .u32 (x : Int), .int .u32 (y : Int), .int .u32 (z : Int)] w (Val (.int .u32 (chf x y z : Int)) w) := by
  have e1 := u32_and_nat x y hx hy
  have e2 := u32_and_nat (4294967295 - x) z (by omega) hz
  have e3 := u32_xor_nat (x &&& y) ((4294967295 - x) &&& z) (and_lt32 hx) (and_lt32 (by omega))
  have e4 := not_word x hx
  have es : ¬ IntKind.u32.signed = true := by decide
  go_enter Tryd.func111, Tryd.ntmps111
  go_wp2
  go_ret
  exact ⟨rfl, rfl⟩

set_option maxHeartbeats 400000 in
theorem maj_any (x y z : Nat) (hx : x < 4294967296) (hy : y < 4294967296) (hz : z < 4294967296) (w : World) :
    Calls Tryd.prog 112 #[.int .u32 (x : Int), .int .u32 (y : Int), .int .u32 (z : Int)] w (Val (.int .u32 (maj x y z : Int)) w) := by
  have e1 := u32_and_nat x y hx hy
  have e2 := u32_and_nat x z hx hz
  have e3 := u32_and_nat y z hy hz
  have e4 := u32_xor_nat (x &&& y) (x &&& z) (and_lt32 hx) (and_lt32 hx)
  have e5 := u32_xor_nat ((x &&& y) ^^^ (x &&& z)) (y &&& z) (xor_lt32 (and_lt32 hx) (and_lt32 hx)) (and_lt32 hy)
  go_enter Tryd.func112, Tryd.ntmps112
  go_wp2
  go_ret
  exact ⟨rfl, rfl⟩
end Go.Proofs.YtmanflfanoddgaaDoor
