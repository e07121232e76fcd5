/-
  Decode of bytes of another length, the program's and the document's.
-/
import Derived.Test.YtmamhinpkioogaaPgDd
import Derived.Test.YtmamhinpkioogaaPgEo
namespace Go.Proofs.Ytmamhinpkioogaa
open Go.RowKit

set_option maxRecDepth 20000 in
set_option maxHeartbeats 6400000 in
theorem decode_other (A : Option Addr) (n c : Nat) (w : World) (hn : n ≠ 504) :
    Calls Try.prog 17 #[.slice A n c] w (Ret w (Is (.tuple #[.agg #[.int .u8 0, .int .i64 0, .slice none 0 0], .int .i64 3]))) := by
  have hne : ((n : Int) == 504) = false := beq_eq_false_iff_ne.2 (by omega)
  have hne2 : ((n : Int) != 504) = true := by rw [bne, hne]; rfl
  go_enter Try.func17, Try.ntmps17
  go_upto_region 1 with fail
  obtain ⟨W1, hX1, hR1, hg⟩ : ∃ W1, Ext w W1 ∧ Rw W1 w.heap.size 24 [.int .u8 0, .int .i64 0, .slice none 0 0] ∧ w.alloc (.cells #[.int .u8 0, .int .i64 0, .slice none 0 0] 24) = W1 := ⟨_, Ext.alloc _ _, Rw.new _ _ _, rfl⟩
  rw [hg]
  obtain ⟨hb, HHB⟩ : ∃ hb, Hid (w.heap.size = hb) := ⟨_, hide rfl⟩
  rw [HHB.out] at hR1 ⊢
  have X4 := hide hX1
  have R4 := hide hR1
  have HBW : Hid (w.heap.size ≤ hb) := hide (by rw [HHB.out]; exact Nat.le_refl _)
  clear hg hX1 hR1
  have k0 := R4.out.cell (i := 0) rfl
  have k1 := R4.out.cell (i := 1) rfl
  have k2 := R4.out.cell (i := 2) rfl
  have f0 := R4.out.frozen 0
  have f1 := R4.out.frozen 1
  have f2 := R4.out.frozen 2
  go_wp2
  have R5 := (((R4.out.set 0 (.int .u8 0)).set 1 (.int .i64 0)).set 2 (.slice none 0 0))
  have e0 := R5.cell (i := 0) rfl
  have e1 := R5.cell (i := 1) rfl
  have e2 := R5.cell (i := 2) rfl
  have XE : Ext w (((W1.setCell ⟨hb, 0, none⟩ (.int .u8 0)).setCell ⟨hb, 1, none⟩ (.int .i64 0)).setCell ⟨hb, 2, none⟩ (.slice none 0 0)) := Below.setCell (p := ⟨hb, 2, none⟩) (Below.setCell (p := ⟨hb, 1, none⟩) (Below.setCell (p := ⟨hb, 0, none⟩) X4.out HBW.out _) HBW.out _) HBW.out _
  refine bodyPost_ret (v := .tuple #[.agg #[.int .u8 0, .int .i64 0, .slice none 0 0], .int .i64 3]) (by simp [results, Try.results17, go_sem, e0, e1, e2]; try rfl) rfl ?_
  exact Ret.mk XE rfl
set_option maxRecDepth 20000 in
set_option maxHeartbeats 6400000 in
theorem rdecode_other (A : Option Addr) (n c : Nat) (w : World) (hn : n ≠ 504) :
    Calls Try.prog 20 #[.slice A n c] w (Ret w (Is (.tuple #[.agg #[.int .u8 0, .int .i64 0, .slice none 0 0], .bool false]))) := by
  have hne : ((n : Int) == 504) = false := beq_eq_false_iff_ne.2 (by omega)
  have hne2 : ((n : Int) != 504) = true := by rw [bne, hne]; rfl
  go_enter Try.func20, Try.ntmps20
  go_upto_region 1 with fail
  obtain ⟨W1, hX1, hR1, hg⟩ : ∃ W1, Ext w W1 ∧ Rw W1 w.heap.size 24 [.int .u8 0, .int .i64 0, .slice none 0 0] ∧ w.alloc (.cells #[.int .u8 0, .int .i64 0, .slice none 0 0] 24) = W1 := ⟨_, Ext.alloc _ _, Rw.new _ _ _, rfl⟩
  rw [hg]
  obtain ⟨hb, HHB⟩ : ∃ hb, Hid (w.heap.size = hb) := ⟨_, hide rfl⟩
  rw [HHB.out] at hR1 ⊢
  have X4 := hide hX1
  have R4 := hide hR1
  have HBW : Hid (w.heap.size ≤ hb) := hide (by rw [HHB.out]; exact Nat.le_refl _)
  clear hg hX1 hR1
  have k0 := R4.out.cell (i := 0) rfl
  have k1 := R4.out.cell (i := 1) rfl
  have k2 := R4.out.cell (i := 2) rfl
  have f0 := R4.out.frozen 0
  have f1 := R4.out.frozen 1
  have f2 := R4.out.frozen 2
  go_wp2
  have R5 := (((R4.out.set 0 (.int .u8 0)).set 1 (.int .i64 0)).set 2 (.slice none 0 0))
  have e0 := R5.cell (i := 0) rfl
  have e1 := R5.cell (i := 1) rfl
  have e2 := R5.cell (i := 2) rfl
  have XE : Ext w (((W1.setCell ⟨hb, 0, none⟩ (.int .u8 0)).setCell ⟨hb, 1, none⟩ (.int .i64 0)).setCell ⟨hb, 2, none⟩ (.slice none 0 0)) := Below.setCell (p := ⟨hb, 2, none⟩) (Below.setCell (p := ⟨hb, 1, none⟩) (Below.setCell (p := ⟨hb, 0, none⟩) X4.out HBW.out _) HBW.out _) HBW.out _
  refine bodyPost_ret (v := .tuple #[.agg #[.int .u8 0, .int .i64 0, .slice none 0 0], .bool false]) (by simp [results, Try.results20, go_sem, e0, e1, e2]; try rfl) rfl ?_
  exact Ret.mk XE rfl
end Go.Proofs.Ytmamhinpkioogaa
