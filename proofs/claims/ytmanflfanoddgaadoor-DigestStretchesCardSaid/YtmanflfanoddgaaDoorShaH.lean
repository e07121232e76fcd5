/-
  Bytes in digits: Hex's contract, and the document's own.
-/
import Derived.Test.YtmanflfanoddgaaDoorShaG
import Derived.Test.YtmanflfanoddgaaDoorMade
import Derived.BigRegion
import Derived.Deep.RegionHeld3
namespace Go.Proofs.YtmanflfanoddgaaDoor
open Go.RowKit

def digitsL : List UInt8 := [48, 49, 50, 51, 52, 53, 54, 55, 56, 57, 97, 98, 99, 100, 101, 102]
def digitB (n : Nat) : UInt8 := digitsL.getD n 0
def hexL (l : List UInt8) : List UInt8 := l.flatMap fun b => [digitB (b.toNat / 16), digitB (b.toNat % 16)]
theorem hexL_append (l m : List UInt8) : hexL (l ++ m) = hexL l ++ hexL m := List.flatMap_append
theorem hexL_length (l : List UInt8) : (hexL l).length = 2 * l.length := by
  induction l with
  | nil => rfl
  | cons b t ih =>
    show (digitB (b.toNat / 16) :: digitB (b.toNat % 16) :: hexL t).length = _
    rw [List.length_cons, List.length_cons, ih, List.length_cons]
    omega
theorem dig_at (i j : Nat) (h : i < (⟨#[48, 49, 50, 51, 52, 53, 54, 55, 56, 57, 97, 98, 99, 100, 101, 102]⟩ : ByteArray).size) (hij : i = j) : ((((⟨#[48, 49, 50, 51, 52, 53, 54, 55, 56, 57, 97, 98, 99, 100, 101, 102]⟩ : ByteArray)[i]'h).toNat : Nat) : Int) = ((digitB j).toNat : Int) := by
  subst hij
  have h2 : ∀ k : Fin 16, ((⟨#[48, 49, 50, 51, 52, 53, 54, 55, 56, 57, 97, 98, 99, 100, 101, 102]⟩ : ByteArray)[k.val]'k.isLt) = digitB k.val := by decide
  exact congrArg (fun u : UInt8 => ((u.toNat : Nat) : Int)) (h2 ⟨i, h⟩)
set_option maxRecDepth 100000 in
theorem and15 : ∀ X : Fin 256, bits .and .u8 ((X.val : Nat) : Int) 15 = ((X.val % 16 : Nat) : Int) := by decide
theorem Rd.two (w : World) (t : TypeId) (a b : Int) (x y : UInt8) (ha : a = (x.toNat : Int)) (hb : b = (y.toNat : Int)) : Rd ((w.alloc (.cells #[.int .u8 a, .int .u8 b] t)).drew) (some ⟨w.heap.size, 0, none⟩) [x, y] := by
  subst ha hb
  exact Rd.ext (Rd.new w t [x, y] []) (Ext.drew _)
theorem step_cat {ops : Array Oper} {o : Oper} {a : Act} {w : World} {K : Act → World → Prop} {Q : Exit → Act → World → Prop} {E : Prop} (hgd : o.guard = none) (s x : Operand)
    (ho : o.op = .call { callee := .builtin .append, args := #[s, x], argTypes := #[22, 22] })
    (base : Nat) (v : Value) (l m : List UInt8) (A : Option Addr) (n c : Nat) (hs : a.eval s = v) (hx : a.eval x = .slice A n c) (hn : n = m.length) (hown : Own w base v l) (hr : Rd w A m) (hbase : base ≤ w.heap.size) (hlen : l.length + m.length ≤ 140737488355328)
    (h : ∀ v' w', Own w' base v' (l ++ m) → Below base w w' → K (a.put o.dst v') w') : if Region.wanted o (yielded ops a.tmps) = true then o.wp Tryd.prog a w K Q else E := by
  rw [if_pos (by simp [Region.wanted, hgd])]
  exact wp_cat s x ho base v l m A n c hs hx hn hown hr hbase hlen h

set_option maxHeartbeats 400000 in
theorem hex_any (A : Option Addr) (c : Nat) (l : List UInt8) (w : World) (hr : Rd w A l) (hl : l.length ≤ 70368744177664) :
    Calls Tryd.prog 44 #[.slice A l.length c] w (Ret w (Is (.string ⟨(hexL l).toArray⟩))) := by
  have hmk := fun W => run_make_room (2 * l.length) (by omega) W
  rw [show ((2 * l.length : Nat) : Int) = 2 * (l.length : Int) from by omega] at hmk
  obtain ⟨n, HL⟩ : ∃ n, Hid (l.length = n) := ⟨_, rfl⟩
  have hn := hl
  rw [HL.out] at hmk hn ⊢
  go_enter Tryd.func44, Tryd.ntmps44
  go_wp2
  go_loopw [3, 5, 12] (fun v _ i wr => ∃ k : Nat, k ≤ n ∧ i = .int .i64 k ∧ Own wr w.heap.size v (hexL (l.take k)) ∧ Below w.heap.size w wr) (fun _ _ i _ => n - (intOf i).toNat)
  case atStart => exact ⟨0, Nat.zero_le _, rfl, Own.room _ _ _ (Nat.le_refl _) (by omega), (Below.refl _ _).alloc (Nat.le_refl _) _⟩
  case round =>
    obtain ⟨k, hk, rfl, hown, hb⟩ := hrel
    by_cases hlt : k < n
    · obtain ⟨b, off, x, rfl, hxk, hcx⟩ := (hr.ext hb).at (k := k) (by rw [HL.out]; exact hlt)
      have hx2 := x.toNat_lt
      have hlen : (hexL (l.take k)).length ≤ 2 * k := by rw [hexL_length, List.length_take]; omega
      have h15 : bits .and .u8 (x.toNat : Int) 15 = ((x.toNat % 16 : Nat) : Int) := and15 ⟨x.toNat, by omega⟩
      have HX := hide hxk
      clear hxk
      go_wp2
      go_region_held3 (fun _ => True) (exact trivial)
        ((refine step_cat rfl (.tmp 16) (.tmp 23) (by rfl) w.heap.size _ _ [digitB (x.toNat / 16), digitB (x.toNat % 16)] _ _ _ (by rfl) (by rfl) rfl ((Own.drew hown).alloc _) (Rd.two _ _ _ _ _ _ (dig_at _ _ _ (by omega)) (dig_at _ _ _ (by omega))) (Nat.le_trans (Below.size hb) (by simp)) (by show _ + 2 ≤ _; omega) ?_; intro v1 w1 hown1 hb1))
      all_goals
        go_wp2
        refine ⟨⟨k + 1, by omega, by go_num, ?_, Below.trans ((hb.alloc (Below.size hb) _).drew) hb1⟩, by simp [intOf]; omega⟩
        rw [List.take_add_one, HX.out, hexL_append]
        exact hown1
    · obtain rfl : k = n := by omega
      rw [List.take_of_length_le (by rw [HL.out]; exact Nat.le_refl _)] at hown
      go_wp2_with (refine wpList_str rfl (.tmp 26) rfl (hexL l) hown.bytes ?_)
      go_ret
      exact Ret.mk hb rfl
end Go.Proofs.YtmanflfanoddgaaDoor
