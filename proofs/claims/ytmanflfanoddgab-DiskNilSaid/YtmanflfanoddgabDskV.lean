/-
  The walk of DiskNil.
-/
import Derived.Test.YtmanflfanoddgabDskQ
import Derived.Test.YtmanflfanoddgabDskZ
namespace Go.Proofs.Ytmanflfanoddgab
open Go.RowKit

set_option maxRecDepth 20000 in
set_option maxHeartbeats 3200000 in
theorem diskNil_walk (i : Int) (P : Option Addr) (n c : Nat) (w : World) : Calls Try.prog 6 #[.int .i64 i, .slice P n c] w (Ret w (Is (.bool true))) := by
  have KA := hide awake_any
  have KR := hide fun W => read_none (w := W) i
  have KW := hide fun W => nil_write i P n c W
  have KS := hide nil_sync
  have KM := hide (nil_arm i)
  have KT := hide nil_restart
  have KL := hide nil_len
  have KP := hide nil_pending
  have KO := hide nil_ops
  have KN := hide nil_on
  go_enter Try.func6, Try.ntmps6
  go_wp2_with (first
    | (go_at_call 18; (with_reducible refine (KR.out _).mono ?_); rintro e w1 ⟨rfl, rfl⟩)
    | (go_at_call 8; (with_reducible refine (KA.out _).mono ?_); rintro e w1 ⟨rfl, hx1⟩)
    | (go_at_call 21; (with_reducible refine (KW.out _).mono ?_); rintro e w2 ⟨rfl, rfl⟩)
    | (go_at_call 22; (with_reducible refine (KS.out _).mono ?_); rintro e w2 ⟨rfl, rfl⟩)
    | (go_at_call 23; (with_reducible refine (KM.out _).mono ?_); rintro e w2 ⟨rfl, rfl⟩)
    | (go_at_call 16; (with_reducible refine (KT.out _).mono ?_); rintro e w3 ⟨rfl, hx3⟩)
    | (go_at_call 10; (with_reducible refine (KL.out _).mono ?_); rintro e w4 ⟨rfl, rfl⟩)
    | (go_at_call 13; (with_reducible refine (KP.out _).mono ?_); rintro e w4 ⟨rfl, rfl⟩)
    | (go_at_call 14; (with_reducible refine (KO.out _).mono ?_); rintro e w4 ⟨rfl, rfl⟩)
    | (go_at_call 15; (with_reducible refine (KN.out _).mono ?_); rintro e w4 ⟨rfl, rfl⟩))
  go_ret
  exact Ret.mk (hx1.trans hx3) rfl
end Go.Proofs.Ytmanflfanoddgab
