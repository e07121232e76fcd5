/-
  A slice of bytes made with room.
-/
import Derived.Test.YtmamhinpkioogaaOwn
namespace Go.Proofs.Ytmamhinpkioogaa
open Go.RowKit

theorem run_make_room (c : Nat) (hc : c ≤ 281474976710656) (W : World) : (Instr.makeSlice 28 (.int .i64 0) (.int .i64 (c : Int))).run Try.prog W =
    .ok (.slice (some ⟨W.heap.size, 0, none⟩) 0 c) (W.alloc (.cells (madeCells #[.int .u8 0] c) 5)) := by
  obtain ⟨i0, hi, hz0, hz1, hz2⟩ := info_parts info_u8
  have h := run_make (P := Try.prog) W 28 5 i0 (.int .u8 0) Try.underlying28 hi hz0 .i64 .i64 0 (c : Int) (by omega) (by omega) (by rw [hz2]; omega) (by omega)
  simpa [hz1, Value.cells] using h
theorem Own.room (W : World) (base c : Nat) (hb : base ≤ W.heap.size) (hc : c ≤ 281474976710656) : Own (W.alloc (.cells (madeCells #[.int .u8 0] c) 5)) base (.slice (some ⟨W.heap.size, 0, none⟩) 0 c) [] :=
  World.ownsRow_made W _ c hb (by unfold maxLen; omega) (by simp [madeCells])
end Go.Proofs.Ytmamhinpkioogaa
