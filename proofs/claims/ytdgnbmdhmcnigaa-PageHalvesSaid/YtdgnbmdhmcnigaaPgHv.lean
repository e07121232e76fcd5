/-
  The walk of PageHalves.
-/
import Derived.Test.YtdgnbmdhmcnigaaPgT
namespace Go.Proofs.Ytdgnbmdhmcnigaa
open Go.RowKit

set_option maxRecDepth 20000 in
set_option maxHeartbeats 1600000 in
theorem pageHalves_walk (A : Option Addr) (c : Nat) (L : List Cl) (w : World) (hr : RdC w A L) (hnc : L.length ≤ c) (hS : Small L) :
    Calls Try.prog 6 #[.slice A L.length c] w (Ret w (Is (.bool true))) := by
  have KA := hide awake_any
  obtain ⟨n, HN⟩ : ∃ n, Hid (L.length = n) := ⟨_, hide rfl⟩
  rw [HN.out] at hnc ⊢
  by_cases h3 : 300 < n
  · have h3i : (300 : Int) < (n : Int) := by omega
    clear hr hnc hS h3
    go_enter Try.func6, Try.ntmps6
    go_upto_region 2 with (go_at_call 11; (with_reducible refine (KA.out _).mono ?_); rintro e w1 ⟨rfl, hx1⟩; have X1 := hide hx1; clear hx1)
    go_wp2_with (go_at_call 11; (with_reducible refine (KA.out _).mono ?_); rintro e w2 ⟨rfl, hx2⟩; have X2 := hide (X1.out.trans hx2); clear hx2)
    go_ret
    exact Ret.mk X2.out rfl
  · have h3i : ¬ (300 : Int) < (n : Int) := by omega
    obtain ⟨b, HB⟩ : ∃ b, Hid (halves L = b) := ⟨_, hide rfl⟩
    have K1 := hide (fun (W : World) (hW : Ext w W) => halves_any n c W (hr.ext hW) HN.out (by omega) hS)
    have K2 := hide (fun (W : World) (hW : Ext w W) => rhalves_any n c W (hr.ext hW) HN.out (by omega) hnc hS)
    rw [HB.out] at K1 K2
    clear hr hnc hS h3
    go_enter Try.func6, Try.ntmps6
    go_wp2_with (first
      | (go_at_call 11; (with_reducible refine (KA.out _).mono ?_); rintro e w1 ⟨rfl, hx1⟩; have X1 := hide hx1; clear hx1)
      | (go_at_call 27; (with_reducible refine (K1.out _ X1.out).mono ?_); rintro e w2 ⟨v2, rfl, hx2, rfl⟩; have X2 := hide (X1.out.trans hx2); clear hx2)
      | (go_at_call 28; (with_reducible refine (K2.out _ X2.out).mono ?_); rintro e w3 ⟨rfl, q, rfl⟩; have X3 := hide (X2.out.trans ((Ext.refl _).drewN q))))
    go_ret
    exact Ret.mk X3.out rfl
end Go.Proofs.Ytdgnbmdhmcnigaa
