/-
  The digest of bytes: Sum's contract.
-/
import Derived.Test.YtmanflfanoddgaaDoorShaF
namespace Go.Proofs.YtmanflfanoddgaaDoor
open Go.RowKit

theorem Tab.start {w : World} (ht : Tab w) : ∀ j v, (us start0.list)[j]? = some v → w.cell? ⟨0, j, none⟩ = some v := by
  intro j v hv
  rw [us_get] at hv
  obtain ⟨n, hn, rfl⟩ : ∃ n, start0.list[j]? = some n ∧ Value.int .u32 (n : Int) = v := by
    cases h : start0.list[j]? with
    | none => rw [h] at hv; cases hv
    | some n => rw [h] at hv; exact ⟨n, rfl, by simpa using hv⟩
  exact ht.h j n hn

set_option maxRecDepth 20000 in
set_option maxHeartbeats 1600000 in
theorem sum_any (A : Option Addr) (c : Nat) (l : List UInt8) (w : World) (hr : Rd w A l) (hlc : l.length ≤ c) (hl : l.length ≤ 140737488355328) (ht : Tab w) :
    Calls Tryd.prog 43 #[.slice A l.length c] w (Ret w (Is (.agg (bs (sha l)).toArray))) := by
  obtain ⟨o, HO⟩ : ∃ o, Hid (sha l = o) := ⟨_, rfl⟩
  have hol : o.length = 32 := by rw [← HO.out]; rfl
  have KS := hide fun W (h : Ext w W) => (show Calls Tryd.prog 76 #[.agg (us start0.list).toArray, .int .i64 0, .slice A l.length c] W (Ret W (Is (.agg (bs o).toArray)))
    from HO.out ▸ sumFrom_any start0 start0_ok 0 A c l W (hr.ext h) hlc hl (by omega) (ht.ext h))
  rw [HO.out]
  go_enter Tryd.func43, Tryd.ntmps43
  go_wp2_with (first
    | ((with_reducible show wpList _ _ _ (⟨some 3, .load _ _, _, _, _, _⟩ :: _) _ _);
       refine wpList_load_cells rfl 28 (.global 0) rfl _ rfl (us start0.list) 8 27 Tryd.underlying28 (by kernel_rfl) (by rw [us_length, list_length]) (ht.ext (Ext.alloc w _)).start ?_)
    | (go_at_call 76; refine (KS.out _ (Ext.alloc w _)).mono ?_; rintro e w2 ⟨v2, rfl, hw2, rfl⟩)
    | ((with_reducible show wpList _ _ _ (⟨none, .store _ (.tmp 2) _, _, _, _, _⟩ :: _) _ _);
       refine wpList_store_rw rfl 24 (.tmp 2) (.tmp 5) rfl _ rfl (bs o) rfl 24 (bs (List.replicate 32 0)) (Rw.ext (heap_alloc_new w _) hw2) 32 (by kernel_rfl) (by rw [bs_length, hol]) (by rw [bs_length, bs_length, hol]; rfl) (List.all_eq_true.2 (bs_one _)) ?_;
       intro w5 hr5 hl5))
  exact ret_rw rfl rfl _ rfl _ _ hr5 32 5 Tryd.underlying24 (by kernel_rfl) (by rw [bs_length, hol]) (Ret.mk (((Ext.alloc w _).trans hw2).laid hl5 (Nat.le_refl _)) rfl)
end Go.Proofs.YtmanflfanoddgaaDoor
