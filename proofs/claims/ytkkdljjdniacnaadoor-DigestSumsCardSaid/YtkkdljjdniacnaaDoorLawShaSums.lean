/-
  DigestSums: the walk.
-/
import Derived.Test.YtkkdljjdniacnaaDoorShaX
import Derived.Test.YtkkdljjdniacnaaDoorArrE
import Derived.Test.YtkkdljjdniacnaaDoorRefS
namespace Go.Proofs.YtkkdljjdniacnaaDoor
open Go.RowKit

set_option maxRecDepth 20000 in
set_option maxHeartbeats 3200000 in
theorem sums_walk (A : Option Addr) (c : Nat) (l : List UInt8) (w : World) (hA : Rd w A l) (hac : l.length ≤ c) (hal : l.length ≤ 140737488355328) (ht : Tab w) :
    Calls Tryd.prog 3 #[.slice A l.length c] w (Ret w (Is (.bool true))) := by
  have KA := hide fun W (h : Ext w W) => awake_any W (ht.ext h)
  obtain ⟨n, HN⟩ : ∃ n, Hid (l.length = n) := ⟨_, hide rfl⟩
  by_cases hbig : 100000 < l.length
  · have hbi : (100000 : Int) < (n : Int) := by rw [← HN.out]; omega
    rw [HN.out]
    clear hbig
    go_enter Tryd.func3, Tryd.ntmps3
    go_wp2_with (first
      | (go_at_call 10; (with_reducible refine (KA.out _ hx1).mono ?_); rintro e w2 ⟨v2, rfl, hw2, rfl⟩; have hx2 := hx1.trans hw2)
      | (go_at_call 10; (with_reducible refine (KA.out _ (Ext.refl w)).mono ?_); rintro e w1 ⟨v1, rfl, hx1, rfl⟩))
    go_ret
    exact Ret.mk hx2 rfl
  · obtain ⟨o, HO⟩ : ∃ o, Hid (sha l = o) := ⟨_, hide rfl⟩
    have HOL : Hid (o.length = 32) := hide (by rw [← HO.out]; rfl)
    obtain ⟨tb, htb⟩ : ∃ tb, Hid (tb = startW ++ roundW) := ⟨_, hide rfl⟩
    have KS := hide fun W (h : Ext w W) => (show Calls Tryd.prog 11 #[.slice A n c] W (Ret W (Is (.agg (bs o).toArray))) from (by
      have h3 := sum_any A c l W (hA.ext h) hac hal (ht.ext h)
      rw [HO.out, HN.out] at h3
      exact h3))
    have KM := hide fun W => (show Calls Tryd.prog 13 #[] W (Ret W (Is (.agg (us tb).toArray))) from (by
      rw [htb.out]
      exact rmake_any W))
    have KR := hide fun W (h : Ext w W) => (show Calls Tryd.prog 12 #[.agg (us tb).toArray, .slice A n c] W (Ret W (Is (.agg (bs o).toArray))) from (by
      have h3 := rsum_any tb htb A c l W (hA.ext h) (by omega)
      rw [HO.out, HN.out] at h3
      exact h3))
    have hgd : Tryd.prog.eqGuardType Tryd.prog.depth 24 = false := by kernel_rfl
    have hne : ∀ W, (binOp .eql 24 (.agg (bs o).toArray) (.agg (bs o).toArray)).run Tryd.prog W = .ok (.bool true) W := fun W => run_eql_bytes W 24 5 o (by rw [HOL.out]; exact Tryd.underlying24) Tryd.underlying5 (by kernel_rfl)
    have hsm : (n : Int) ≤ 100000 := by rw [← HN.out]; omega
    have HLS := hide (show l.length ≤ 100000 by omega)
    have HAC := hide hac
    rw [HN.out]
    clear hbig hal hac
    go_enter Tryd.func3, Tryd.ntmps3
    go_wp2_with (first
      | (go_at_call 10; (with_reducible refine (KA.out _ (Ext.refl w)).mono ?_); rintro e w1 ⟨v1, rfl, hx1, rfl⟩)
      | (at_builtin; refine wpList_cat rfl (.tmp 12) (.tmp 13) rfl w1.heap.size _ [] l A n c rfl rfl HN.out.symm (Own.nil _ _) (hA.ext hx1) (Nat.le_refl _) (by simp; have := HLS.out; omega) ?_; intro v2 w2 hown2 hb2; rw [List.nil_append] at hown2; have HO2 := hide hown2; clear hown2; have hx2 : Ext w w2 := Below.trans hx1 (Below.mono hb2 hx1.size))
      | (go_at_call 11; (with_reducible refine (KS.out _ hx2).mono ?_); rintro e w3 ⟨v3, rfl, hw3, rfl⟩; have hx3 := hx2.trans hw3)
      | (go_at_call 13; (with_reducible refine (KM.out _).mono ?_); rintro e w4 ⟨v4, rfl, hw4, rfl⟩; have hx4 := hx3.trans hw4)
      | (go_at_call 12; (with_reducible refine (KR.out _ hx4).mono ?_); rintro e w5 ⟨v5, rfl, hw5, rfl⟩; have hx5 := hx4.trans hw5)
      | ((with_reducible show wpList _ _ _ (⟨some 23, .convert _ _ _, _, _, _, _⟩ :: _) _ _);
         refine wpList_str rfl (.tmp 22) rfl l ⟨A, c, by rw [HN.out]; rfl, HAC.out, hA.ext hx5⟩ ?_)
      | ((with_reducible show wpList _ _ _ (⟨some 25, .convert _ _ _, _, _, _, _⟩ :: _) _ _);
         refine wpList_str rfl (.tmp 24) rfl l (Bytes.keep (HO2.out.bytes) (Ext.keeps ((hw3.trans hw4).trans hw5))) ?_))
    go_ret
    exact Ret.mk hx5 rfl
end Go.Proofs.YtkkdljjdniacnaaDoor
