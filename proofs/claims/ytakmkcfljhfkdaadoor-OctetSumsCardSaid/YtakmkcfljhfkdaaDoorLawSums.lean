/-
  OctetSums: for every bytes, place and bit the law answers true: the walk.
-/
import Derived.Test.YtakmkcfljhfkdaaDoorOctK
import Derived.Test.YtakmkcfljhfkdaaDoorOctR
namespace Go.Proofs.YtakmkcfljhfkdaaDoor
open Go.RowKit

theorem crc_set (l : List UInt8) (k : Nat) (x y : UInt8) (hx : l[k]? = some x) (hy : y ≠ x) : crc (l.set k y) ≠ crc l := by
  intro h
  obtain ⟨hk, -⟩ := List.getElem?_eq_some_iff.1 hx
  have e1 : l = l.take k ++ x :: l.drop (k + 1) := by
    rw [← drop_at l k x hx, List.take_append_drop]
  have e2 : l.set k y = l.take k ++ y :: l.drop (k + 1) := List.set_eq_take_append_cons_drop.trans (if_pos hk)
  rw [e2] at h
  have h2 : crc (l.take k ++ y :: l.drop (k + 1)) = crc (l.take k ++ x :: l.drop (k + 1)) := by rw [h, ← e1]
  exact hy (crc_turned _ _ _ _ h2)

theorem pow_bit : ∀ b : Nat, b < 8 → (2 : Int) ^ b % 256 = ((2 ^ b : Nat) : Int) ∧ 2 ^ b ≠ 0 ∧ 2 ^ b < 256 := by decide
theorem turn_bit (x : UInt8) (b : Nat) : ∃ y : UInt8, bits .xor .u8 (x.toNat : Int) ((2 : Int) ^ (b % 8) % 256) = (y.toNat : Int) ∧ y ≠ x := by
  obtain ⟨e1, e2, e3⟩ := pow_bit (b % 8) (Nat.mod_lt _ (by decide))
  have hx := x.toNat_lt
  have e := u8_xor_nat x.toNat (2 ^ (b % 8)) hx e3
  have hlt : x.toNat ^^^ 2 ^ (b % 8) < 256 := Nat.xor_lt_two_pow (n := 8) hx e3
  have hy : (UInt8.ofNat (x.toNat ^^^ 2 ^ (b % 8))).toNat = x.toNat ^^^ 2 ^ (b % 8) := by rw [UInt8.toNat_ofNat']; exact Nat.mod_eq_of_lt hlt
  refine ⟨UInt8.ofNat (x.toNat ^^^ 2 ^ (b % 8)), by rw [e1, e, hy], fun h => e2 ?_⟩
  have h2 := congrArg UInt8.toNat h
  rw [hy] at h2
  have h3 := congrArg (x.toNat ^^^ ·) h2
  simp [← Nat.xor_assoc] at h3

set_option maxRecDepth 20000 in
set_option maxHeartbeats 1600000 in
theorem sums_walk (A : Option Addr) (c : Nat) (l : List UInt8) (m b : Nat) (w : World) (hr : Rd w A l) (hl : l.length ≤ 140737488355328) (hm : m < 65536) (hb : b < 256) (ht : Tab w) :
    Calls Tryd.prog 8 #[.slice A l.length c, .int .u16 (m : Int), .int .u8 (b : Int)] w (Ret w (Is (.bool true))) := by
  have K1 := hide fun W (h : Ext w W) => sum_any A c l W (hr.ext h) hl (ht.ext h)
  have K2 := hide fun W (h : Ext w W) => rsum_any A c l W (hr.ext h) hl
  by_cases h0 : l = []
  · subst h0
    have J1 := hide (show ∀ W, Ext w W → Calls Tryd.prog 26 #[.slice A 0 c] W (Ret W (Is (.int .u32 ((crc [] : Nat) : Int)))) from K1.out)
    have J2 := hide (show ∀ W, Ext w W → Calls Tryd.prog 27 #[.slice A 0 c] W (Ret W (Is (.int .u32 ((crc [] : Nat) : Int)))) from K2.out)
    clear K1 K2
    generalize crc [] = z at J1 J2
    go_enter Tryd.func8, Tryd.ntmps8
    go_wp2_with (first
      | (go_at_call 11; refine (awake_any _ ht).mono ?_; rintro e w1 ⟨v, rfl, hw1, rfl⟩)
      | (go_at_call 26; ((with_reducible refine (J1.out _ hw1).mono ?_); rintro e w2 ⟨v2, rfl, hw2, rfl⟩; have hw3 := hw1.trans hw2))
      | (go_at_call 27; refine (J2.out _ hw3).mono ?_; rintro e w4 ⟨v4, rfl, hw4, rfl⟩; have hw5 := hw3.trans hw4))
    go_ret
    exact Ret.mk hw5 rfl
  · have hp : 0 < l.length := List.length_pos_iff.2 h0
    have hlen : ((l.length : Int) == 0) = false := by simp; exact h0
    clear h0
    have hm1 : 0 ≤ (m : Int) % (l.length : Int) := Int.emod_nonneg _ (by omega)
    have hm2 : (m : Int) % (l.length : Int) < (l.length : Int) := Int.emod_lt_of_pos _ (by omega)
    obtain ⟨x, hx⟩ : ∃ x, l[m % l.length]? = some x := ⟨_, List.getElem?_eq_getElem (Nat.mod_lt _ hp)⟩
    obtain ⟨y, ey, hyx⟩ := turn_bit x b
    have hx2 := x.toNat_lt
    have hy2 := y.toNat_lt
    have HX := hide hx
    have hne := crc_set l _ x y hx hyx
    have hneb : (((crc (l.set (m % l.length) y) : Nat) : Int) != ((crc l : Nat) : Int)) = true := by simp; omega
    clear hx hyx hne
    generalize hl' : l.set (m % l.length) y = l' at hneb
    have HL := hide hl'
    have hlen' : l'.length = l.length := by rw [← hl', List.length_set]
    have HN := hide hlen'
    have K3 := hide fun (A : Option Addr) (c : Nat) (W : World) (h : Ext w W) (hr : Rd W A l') => (show Calls Tryd.prog 26 #[.slice A l.length c] W (Ret W (Is (.int .u32 (crc l' : Int)))) from hlen' ▸ sum_any A c l' W hr (by omega) (ht.ext h))
    clear hl' hlen'
    go_enter Tryd.func8, Tryd.ntmps8
    go_wp2_with (first
      | (go_at_call 11; refine (awake_any _ ht).mono ?_; rintro e w1 ⟨v, rfl, hw1, rfl⟩)
      | (go_at_call 26; ((with_reducible refine (K1.out _ hw1).mono ?_); rintro e w2 ⟨v2, rfl, hw2, rfl⟩; have hw3 := hw1.trans hw2))
      | (go_at_call 27; refine (K2.out _ hw3).mono ?_; rintro e w4 ⟨v4, rfl, hw4, rfl⟩; have hw5 := hw3.trans hw4)
      | (at_builtin; refine wpList_cat rfl (.tmp 21) (.tmp 22) rfl w.heap.size _ _ l _ _ _ rfl rfl rfl (Own.nil _ _) (hr.ext hw5) (Below.size hw5) (by simp; omega) ?_; intro v6 w6 hown hb6; obtain ⟨g, cap, rfl, hbg, hcx, hfx, hset⟩ := Own.at hown (i := m % l.length) (x := x) HX.out))
    have hbw : Below w.heap.size w w6 := Below.trans hw5 hb6
    have hown2 := hset.out (y.toNat : Int) (by omega) (by omega)
    rw [b8_byte, List.nil_append, HL.out] at hown2
    obtain ⟨A2, c2, e2, _, hr2⟩ := hown2.bytes
    injection e2 with e3 e5 e4
    clear e5
    subst e3 e4
    have hbw2 : Ext w (w6.setCell ⟨g, m % l.length, none⟩ (.int .u8 (y.toNat : Int))) := Below.setCell hbw hbg _
    refine (K3.out _ _ _ hbw2 hr2).mono ?_
    rintro e w7 ⟨v7, rfl, hw7, rfl⟩
    have hw8 := hbw2.trans hw7
    go_wp2_with (go_at_call 26; ((with_reducible refine (K1.out _ hw8).mono ?_); rintro e w9 ⟨v9, rfl, hw9, rfl⟩; have hw10 := hw8.trans hw9))
    go_ret
    exact Ret.mk hw10 rfl
end Go.Proofs.YtakmkcfljhfkdaaDoor
