/-
  Are two lists of bytes the same: Equal's contract.
-/
import Derived.Test.YtkkdljjdniacnaaDoorShaG
namespace Go.Proofs.YtkkdljjdniacnaaDoor
open Go.RowKit

theorem or_zero (a b : Nat) : a ||| b = 0 ↔ a = 0 ∧ b = 0 := by
  constructor
  · intro h
    have h1 : a ≤ a ||| b := Nat.left_le_or
    have h2 : b ≤ a ||| b := Nat.right_le_or
    omega
  · rintro ⟨rfl, rfl⟩; rfl
theorem xor_zero (a b : Nat) : a ^^^ b = 0 ↔ a = b := by
  constructor
  · intro h
    have : (a ^^^ b) ^^^ b = 0 ^^^ b := by rw [h]
    rwa [Nat.xor_assoc, Nat.xor_self, Nat.xor_zero, Nat.zero_xor] at this
  · rintro rfl; exact Nat.xor_self _
theorem same_step (l m : List UInt8) (k acc : Nat) (x y : UInt8) (hx : l[k]? = some x) (hy : m[k]? = some y) (h : acc = 0 ↔ l.take k = m.take k) : (acc ||| (x.toNat ^^^ y.toNat) = 0) ↔ l.take (k + 1) = m.take (k + 1) := by
  have hl : (l.take k).length = (m.take k).length := by
    have h1 := (List.getElem?_eq_some_iff.1 hx).1
    have h2 := (List.getElem?_eq_some_iff.1 hy).1
    simp; omega
  rw [or_zero, xor_zero, h, List.take_add_one, List.take_add_one, hx, hy]
  simp only [Option.toList_some]
  constructor
  · rintro ⟨h1, h2⟩
    rw [h1, UInt8.toNat_inj.1 h2]
  · intro h2
    have := List.append_inj h2 hl
    exact ⟨this.1, by rw [(List.cons.inj this.2).1]⟩

set_option maxRecDepth 20000 in
set_option maxHeartbeats 1600000 in
theorem equal_any (A B : Option Addr) (c d : Nat) (l m : List UInt8) (w : World) (hA : Rd w A l) (hB : Rd w B m) (hl : l.length ≤ 140737488355328) :
    Calls Tryd.prog 20 #[.slice A l.length c, .slice B m.length d] w (Ret w (Is (.bool (l == m)))) := by
  by_cases hn : l.length = m.length
  · have HN := hide hn
    obtain ⟨n, HL⟩ : ∃ n, Hid (l.length = n) := ⟨_, rfl⟩
    have hm : m.length = n := by rw [← hn, HL.out]
    rw [HL.out] at hl
    rw [hm, HL.out]
    clear hm hn
    go_enter Tryd.func20, Tryd.ntmps20
    go_wp2
    go_loopw [5, 14] (fun u i wr => ∃ k acc : Nat, k ≤ n ∧ i = .int .i64 k ∧ acc < 256 ∧ u = .int .u8 acc ∧ Hid (acc = 0 ↔ l.take k = m.take k) ∧ Ext w wr) (fun _ i _ => n - (intOf i).toNat)
    case atStart => exact ⟨0, 0, Nat.zero_le _, rfl, by decide, rfl, by simp [Hid], Ext.refl _⟩
    case round =>
      obtain ⟨k, acc, hk, rfl, hacc, rfl, HA, hx⟩ := hrel
      by_cases hlt : k < n
      · obtain ⟨b, off, x, rfl, hxk, hcx⟩ := (hA.ext hx).at (k := k) (by rw [HL.out]; exact hlt)
        obtain ⟨b2, off2, y, rfl, hyk, hcy⟩ := (hB.ext hx).at (k := k) (by rw [← HN.out, HL.out]; exact hlt)
        have hx2 := x.toNat_lt
        have hy2 := y.toNat_lt
        have hlt2 : (k : Int) < (n : Int) := by omega
        have HS := hide (same_step l m k acc x y hxk hyk HA.out)
        have e1 := u8_xor_nat x.toNat y.toNat (by omega) (by omega)
        have hz : x.toNat ^^^ y.toNat < 256 := Nat.xor_lt_two_pow (n := 8) (by omega) (by omega)
        have e2 := u8_or_nat acc (x.toNat ^^^ y.toNat) hacc hz
        have hz2 : acc ||| (x.toNat ^^^ y.toNat) < 256 := Nat.or_lt_two_pow (n := 8) hacc hz
        clear hxk hyk HA
        go_wp2
        go_quiet (fail)
        go_wp2
        exact ⟨⟨k + 1, _, by omega, by go_num, hz2, rfl, HS, hx.drewN _⟩, by simp [intOf]; omega⟩
      · have hge : ¬ (k : Int) < (n : Int) := by omega
        have HE : Hid (acc = 0 ↔ l = m) := by
          have e : k = n := by omega
          have h1 := HA.out
          rw [e, List.take_of_length_le (by rw [HL.out]; omega), List.take_of_length_le (by rw [← HN.out, HL.out]; omega)] at h1
          exact h1
        clear HA hk hlt
        go_wp2
        go_ret
        refine Ret.mk hx ?_
        show Value.bool ((acc : Int) == 0) = Value.bool (l == m)
        congr 1
        rw [Bool.eq_iff_iff, beq_iff_eq, beq_iff_eq]
        exact ⟨fun h => HE.out.1 (by omega), fun h => by have := HE.out.2 h; omega⟩
  · have h1 : ¬ ((l.length : Int) = (m.length : Int)) := by omega
    have hb : (l == m) = false := by
      rw [beq_eq_false_iff_ne]
      intro e
      exact hn (by rw [e])
    go_enter Tryd.func20, Tryd.ntmps20
    go_wp2
    go_ret
    exact Ret.mk (Ext.refl _) (by rw [hb]; rfl)
end Go.Proofs.YtkkdljjdniacnaaDoor
