/-
  What Encode writes, Decode reads: plain.
-/
import Derived.Test.YtmamhinpkioogaaPgDd
namespace Go.Proofs.Ytmamhinpkioogaa
open Go.RowKit

theorem firstB_enc (x : Cl) (t : List UInt8) (h1 : x.1.length ≤ 255) (h2 : x.2.length ≤ 255) : firstB (encC x ++ t) = some (x, 2 + x.1.length + x.2.length) := by
  obtain ⟨a, b⟩ := x
  simp only at h1 h2 ⊢
  have e1 : (b8 (a.length : Int)).toNat = a.length := by
    have := b8_toNat (n := (a.length : Int)) (by omega) (by omega)
    omega
  have e2 : (b8 (b.length : Int)).toNat = b.length := by
    have := b8_toNat (n := (b.length : Int)) (by omega) (by omega)
    omega
  have e : encC (a, b) ++ t = b8 (a.length : Int) :: b8 (b.length : Int) :: (a ++ (b ++ t)) := by simp [encC]
  rw [e]
  unfold firstB
  simp only [e1, e2]
  rw [if_pos (by simp; omega)]
  have d1 : ((b8 (a.length : Int) :: b8 (b.length : Int) :: (a ++ (b ++ t))).drop 2).take a.length = a := by
    rw [List.drop_succ_cons, List.drop_succ_cons, List.drop_zero, List.take_left]
  have d2 : ((b8 (a.length : Int) :: b8 (b.length : Int) :: (a ++ (b ++ t))).drop (2 + a.length)).take b.length = b := by
    rw [show 2 + a.length = a.length + 1 + 1 by omega, List.drop_succ_cons, List.drop_succ_cons, List.drop_left, List.take_left]
  rw [d1, d2]
theorem decC_enc : ∀ (L : List Cl) (t : List UInt8), (∀ x ∈ L, x.1.length ≤ 255 ∧ x.2.length ≤ 255) → decC L.length (encL L ++ t) = some (L, t)
  | [], t, _ => rfl
  | x :: L, t, h => by
    have e : encL (x :: L) ++ t = encC x ++ (encL L ++ t) := by simp [encL]
    have hx := h x (List.mem_cons_self ..)
    rw [List.length_cons, decC_succ, e, firstB_enc x _ hx.1 hx.2]
    have hlen : (encC x).length = 2 + x.1.length + x.2.length := by unfold encC; simp; omega
    have hd : (encC x ++ (encL L ++ t)).drop (2 + x.1.length + x.2.length) = encL L ++ t := by rw [← hlen, List.drop_left]
    simp only [Option.bind_some, hd]
    rw [decC_enc L t (fun y hy => h y (List.mem_cons_of_mem _ hy))]
    rfl
theorem zerosB_rep (n : Nat) : zerosB (List.replicate n 0) = true := by
  unfold zerosB
  rw [List.all_eq_true]
  intro x hx
  rw [List.eq_of_mem_replicate hx]
  rfl
theorem pageB_enc {kind next : Int} {L : List Cl} (n : Nat) (hf : formB kind next L = true) : pageB (encB kind next L ++ List.replicate n 0) kind next L.length L := by
  obtain ⟨f1, f2, f3, f4⟩ := formB_facts hf
  refine ⟨List.replicate n 0, ?_, ?_, zerosB_rep n, hf⟩
  · have e : (encB kind next L ++ List.replicate n 0).drop 6 = encL L ++ List.replicate n 0 := by
      unfold encB num3
      simp
    rw [e]
    refine decC_enc L _ (fun x hx => ?_)
    obtain ⟨j, hj⟩ := List.mem_iff_getElem?.1 hx
    have := f3 j x hj
    omega
  · unfold encB num3 zerosB
    simp
theorem pageB_one {l : List UInt8} {kind nx : Int} {cnt : Nat} {L M : List Cl} (h : pageB l kind nx cnt L) (k : pageB l kind nx cnt M) : L = M := by
  obtain ⟨r, h1, -⟩ := h
  obtain ⟨s, k1, -⟩ := k
  rw [h1] at k1
  injection k1 with k1
  injection k1
theorem or_i64 (a b : Nat) (ha : a < 4294967296) (hb : b < 4294967296) (h : a ||| b < 4294967296) : bits .or .i64 (a : Int) (b : Int) = ((a ||| b : Nat) : Int) := by
  show IntKind.i64.wrap ((BitVec.ofInt 64 ((a : Nat) : Int) ||| BitVec.ofInt 64 ((b : Nat) : Int)).toNat : Int) = _
  rw [BitVec.toNat_or, BitVec.ofInt_natCast, BitVec.ofInt_natCast, BitVec.toNat_ofNat, BitVec.toNat_ofNat,
    Nat.mod_eq_of_lt (show a < 2 ^ 64 by omega), Nat.mod_eq_of_lt (show b < 2 ^ 64 by omega), IntKind.wrap_i64]
  omega
set_option maxRecDepth 4000 in
theorem nextO_num (a b c : Nat) (ha : a < 256) (hb : b < 256) (hc : c < 256) : nextO a b c = (a : Int) * 65536 + (b : Int) * 256 + (c : Int) := by
  have o1 : (a * 65536) ||| (b * 256) = a * 65536 + b * 256 := by
    have := Nat.shiftLeft_add_eq_or_of_lt (i := 16) (b := b * 256) (by simp only [Nat.reducePow]; omega) a
    simp only [Nat.shiftLeft_eq, Nat.reducePow] at this
    exact this.symm
  have o2 : (a * 65536 + b * 256) ||| c = a * 65536 + b * 256 + c := by
    have := Nat.shiftLeft_add_eq_or_of_lt (i := 8) (b := c) (by simp only [Nat.reducePow]; omega) (a * 256 + b)
    simp only [Nat.shiftLeft_eq, Nat.reducePow] at this
    rw [show (a * 256 + b) * 256 = a * 65536 + b * 256 by omega] at this
    exact this.symm
  unfold nextO
  have c1 : (a : Int) * 65536 = ((a * 65536 : Nat) : Int) := by omega
  have c2 : (b : Int) * 256 = ((b * 256 : Nat) : Int) := by omega
  rw [c1, c2, or_i64 _ _ (by omega) (by omega) (by rw [o1]; omega), o1, or_i64 _ _ (by omega) (by omega) (by rw [o2]; omega), o2]
  omega
end Go.Proofs.Ytmamhinpkioogaa
