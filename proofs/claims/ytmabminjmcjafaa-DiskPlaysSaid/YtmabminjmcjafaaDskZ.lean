/-
  A nil disk: contracts.
-/
import Derived.Test.YtmabminjmcjafaaDskE
namespace Go.Proofs.Ytmabminjmcjafaa
open Go.RowKit

theorem nil_write (i : Int) (P : Option Addr) (n c : Nat) (w : World) : Calls Try.prog 21 #[.pointer none, .int .i64 i, .slice P n c] w (Same w (.int .i64 6)) := by
  go_enter Try.func21, Try.ntmps21
  go_wp2
  go_ret
  exact ⟨rfl, rfl⟩
theorem nil_sync (w : World) : Calls Try.prog 22 #[.pointer none] w (Same w (.int .i64 6)) := by
  go_enter Try.func22, Try.ntmps22
  go_wp2
  go_ret
  exact ⟨rfl, rfl⟩
theorem nil_arm (i : Int) (w : World) : Calls Try.prog 23 #[.pointer none, .int .i64 i] w (Same w (.int .i64 6)) := by
  go_enter Try.func23, Try.ntmps23
  go_wp2
  go_ret
  exact ⟨rfl, rfl⟩
theorem nil_restart (w : World) : Calls Try.prog 16 #[.pointer none, .slice none 0 0] w (fun e w' => e = .returned (.int .i64 6) ∧ Ext w w') := by
  go_enter Try.func16, Try.ntmps16
  go_wp2
  go_ret
  exact ⟨rfl, Ext.alloc _ _⟩
theorem nil_len (w : World) : Calls Try.prog 10 #[.pointer none] w (Same w (.int .i64 0)) := by
  go_enter Try.func10, Try.ntmps10
  go_wp2
  go_ret
  exact ⟨rfl, rfl⟩
theorem nil_pending (w : World) : Calls Try.prog 13 #[.pointer none] w (Same w (.int .i64 0)) := by
  go_enter Try.func13, Try.ntmps13
  go_wp2
  go_ret
  exact ⟨rfl, rfl⟩
theorem nil_ops (w : World) : Calls Try.prog 14 #[.pointer none] w (Same w (.int .i64 0)) := by
  go_enter Try.func14, Try.ntmps14
  go_wp2
  go_ret
  exact ⟨rfl, rfl⟩
theorem nil_on (w : World) : Calls Try.prog 15 #[.pointer none] w (Same w (.bool false)) := by
  go_enter Try.func15, Try.ntmps15
  go_wp2
  go_ret
  exact ⟨rfl, rfl⟩
end Go.Proofs.Ytmabminjmcjafaa
