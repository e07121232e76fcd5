/-
  DigestTags: the walk.
-/
import Derived.Test.YtmanflfanoddgaaDoorShaX
import Derived.Test.YtmanflfanoddgaaDoorArrE
import Derived.Test.YtmanflfanoddgaaDoorRefT
namespace Go.Proofs.YtmanflfanoddgaaDoor
open Go.RowKit

set_option maxRecDepth 20000 in
set_option maxHeartbeats 3200000 in
theorem tags_walk (A B : Option Addr) (c d : Nat) (key p : List UInt8) (w : World) (hA : Rd w A key) (hB : Rd w B p) (hac : key.length ≤ c) (hbd : p.length ≤ d) (hal : key.length ≤ 140737488355328) (hbl : p.length ≤ 140737488355328) (ht : Tab w) :
    Calls Tryd.prog 3 #[.slice A key.length c, .slice B p.length d] w (Ret w (Is (.bool true))) := by
  have KA := hide fun W (h : Ext w W) => awake_any W (ht.ext h)
  obtain ⟨n, HN⟩ : ∃ n, Hid (key.length = n) := ⟨_, hide rfl⟩
  obtain ⟨m, HM⟩ : ∃ n, Hid (p.length = n) := ⟨_, hide rfl⟩
  have hn := hal
  have hm := hbl
  rw [HN.out] at hn
  rw [HM.out] at hm
  by_cases hbig : 100000 < n + m
  · have hbi : (100000 : Int) < (n : Int) + (m : Int) := by omega
    rw [HN.out, HM.out]
    clear hbig hal hbl
    go_enter Tryd.func3, Tryd.ntmps3
    go_wp2_with (first
      | (go_at_call 15; (with_reducible refine (KA.out _ hx1).mono ?_); rintro e w2 ⟨v2, rfl, hw2, rfl⟩; have hx2 := hx1.trans hw2)
      | (go_at_call 15; (with_reducible refine (KA.out _ (Ext.refl w)).mono ?_); rintro e w1 ⟨v1, rfl, hx1, rfl⟩))
    go_ret
    exact Ret.mk hx2 rfl
  · obtain ⟨o, HO⟩ : ∃ o, Hid (tagK key p = o) := ⟨_, hide rfl⟩
    have HOL : Hid (o.length = 32) := hide (by rw [← HO.out]; rfl)
    obtain ⟨tb, htb⟩ : ∃ tb, Hid (tb = startW ++ roundW) := ⟨_, hide rfl⟩
    have KS := hide fun W (h : Ext w W) => (show Calls Tryd.prog 16 #[.slice A n c, .slice B m d] W (Ret W (Is (.agg (bs o).toArray))) from (by
      have h3 := tagOf_any A B c d key p W (hA.ext h) (hB.ext h) hac hbd hal hbl (ht.ext h)
      rw [HO.out, HN.out, HM.out] at h3
      exact h3))
    have KM := hide fun W => (show Calls Tryd.prog 18 #[] W (Ret W (Is (.agg (us tb).toArray))) from (by
      rw [htb.out]
      exact rmake_any W))
    have KR := hide fun W (h : Ext w W) => (show Calls Tryd.prog 17 #[.agg (us tb).toArray, .slice A n c, .slice B m d] W (Ret W (Is (.agg (bs o).toArray))) from (by
      have h3 := rtag_any tb htb A B c d key p W (hA.ext h) (hB.ext h) (by have := HN.out; omega) (by have := HM.out; omega)
      rw [HO.out, HN.out, HM.out] at h3
      exact h3))
    have hgd : Tryd.prog.eqGuardType Tryd.prog.depth 24 = false := by kernel_rfl
    have hne : ∀ W, (binOp .eql 24 (.agg (bs o).toArray) (.agg (bs o).toArray)).run Tryd.prog W = .ok (.bool true) W := fun W => run_eql_bytes W 24 5 o (by rw [HOL.out]; exact Tryd.underlying24) Tryd.underlying5 (by kernel_rfl)
    have hbi : ¬ (100000 : Int) < (n : Int) + (m : Int) := by omega
    rw [HN.out, HM.out]
    clear hbig hal hbl
    go_enter Tryd.func3, Tryd.ntmps3
    go_wp2_with (first
      | (go_at_call 15; (with_reducible refine (KA.out _ (Ext.refl w)).mono ?_); rintro e w1 ⟨v1, rfl, hx1, rfl⟩)
      | (go_at_call 16; (with_reducible refine (KS.out _ hx1).mono ?_); rintro e w3 ⟨v3, rfl, hw3, rfl⟩; have hx3 := hx1.trans hw3)
      | (go_at_call 18; (with_reducible refine (KM.out _).mono ?_); rintro e w4 ⟨v4, rfl, hw4, rfl⟩; have hx4 := hx3.trans hw4)
      | (go_at_call 17; (with_reducible refine (KR.out _ hx4).mono ?_); rintro e w5 ⟨v5, rfl, hw5, rfl⟩; have hx5 := hx4.trans hw5))
    go_ret
    exact Ret.mk hx5 rfl
end Go.Proofs.YtmanflfanoddgaaDoor
