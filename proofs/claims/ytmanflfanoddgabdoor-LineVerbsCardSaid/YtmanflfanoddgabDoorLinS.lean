/-
  Lines: two requests that hold the same are alike.
-/
import Derived.Test.YtmanflfanoddgabDoorLinX
namespace Go.Proofs.YtmanflfanoddgabDoor
open Go.RowKit

set_option maxRecDepth 20000 in
set_option maxHeartbeats 4000000 in
theorem same_any (q : Int) (t : List (List UInt8)) (A B : Option Addr) (c d : Nat) (w : World) (ht : t.length ≤ 301) (hA : RdV w A (tvs t)) (hB : RdV w B (tvs t)) :
    Calls Tryd.prog 12 #[.agg #[.int .u8 q, .slice A t.length c], .agg #[.int .u8 q, .slice B t.length d]] w (Ret w (Is (.bool true))) := by
  obtain ⟨n, HN⟩ : ∃ n, Hid (t.length = n) := ⟨_, rfl⟩
  have hn := ht
  rw [HN.out] at hn ⊢
  clear ht
  go_enter Tryd.func12, Tryd.ntmps12
  go_wp2
  go_loopw [5] (fun i wr => ∃ k : Nat, k ≤ n ∧ i = .int .i64 k ∧ Rw wr w.heap.size 26 [.int .u8 q, .slice A n c] ∧ Rw wr (w.heap.size + 1) 26 [.int .u8 q, .slice B n d] ∧ Ext w wr) (fun i _ => n - (intOf i).toNat)
  case atStart =>
    refine ⟨0, Nat.zero_le _, rfl, (Rw.new w _ _).alloc _, ?_, (Ext.alloc _ _).trans (Ext.alloc _ _)⟩
    have h := Rw.new (w.alloc (.cells #[.int .u8 q, .slice A n c] 26)) 26 [.int .u8 q, .slice B n d]
    rw [show (w.alloc (.cells #[.int .u8 q, .slice A n c] 26)).heap.size = w.heap.size + 1 by simp] at h
    exact h
  case round =>
    obtain ⟨k, hk, rfl, hr1, hr2, hx⟩ := hrel
    have c1 := hr1.cell (i := 1) rfl
    have c2 := hr2.cell (i := 1) rfl
    have H1 := hide hr1
    have H2 := hide hr2
    clear hr1 hr2
    by_cases hlt : k < n
    · have hki : (k : Int) < (n : Int) := by omega
      have hkt : k < t.length := by rw [HN.out]; exact hlt
      have hg := tvs_get t k _ (List.getElem?_eq_getElem hkt)
      obtain ⟨b1, o1, rfl, h1⟩ := (hA.ext hx).at hg
      obtain ⟨b2, o2, rfl, h2⟩ := (hB.ext hx).at hg
      generalize t[k] = x at *
      clear hkt hg
      go_wp2
      go_quiet (fail)
      go_wp2
      exact ⟨⟨k + 1, by omega, by go_num, H1.out.ext (Ext.drewN (Ext.refl _) _), H2.out.ext (Ext.drewN (Ext.refl _) _), Ext.drewN hx _⟩, by simp [intOf]; omega⟩
    · obtain rfl : k = n := by omega
      have hki : ¬ (k : Int) < (k : Int) := Int.lt_irrefl _
      go_wp2
      go_ret
      exact Ret.mk hx rfl
end Go.Proofs.YtmanflfanoddgabDoor
