/-
  The tag of bytes by a key: Tag's contract.
-/
import Derived.Test.YtmanflfanoddgaaDoorShaN
namespace Go.Proofs.YtmanflfanoddgaaDoor
open Go.RowKit

theorem innerS_ok (key : List UInt8) : (innerS key).ok := Sta.plus_ok _ _
theorem outerS_ok (key : List UInt8) : (outerS key).ok := Sta.plus_ok _ _
def tagK (key p : List UInt8) : List UInt8 := tagS (innerS key) (outerS key) p

set_option maxRecDepth 20000 in
set_option maxHeartbeats 1600000 in
theorem tagOf_any (A B : Option Addr) (c d : Nat) (key p : List UInt8) (w : World) (hA : Rd w A key) (hB : Rd w B p) (hkc : key.length ≤ c) (hpc : p.length ≤ d) (hk : key.length ≤ 140737488355328) (hp : p.length ≤ 140737488355328) (ht : Tab w) :
    Calls Tryd.prog 16 #[.slice A key.length c, .slice B p.length d] w (Ret w (Is (.agg (bs (tagK key p)).toArray))) := by
  obtain ⟨o, HO⟩ : ∃ o, Hid (tagK key p = o) := ⟨_, rfl⟩
  have hol : o.length = 32 := by rw [← HO.out]; rfl
  obtain ⟨s1, HS1⟩ : ∃ s, Hid (innerS key = s) := ⟨_, rfl⟩
  obtain ⟨s2, HS2⟩ : ∃ s, Hid (outerS key = s) := ⟨_, rfl⟩
  have k1 : s1.ok := by rw [← HS1.out]; exact innerS_ok key
  have k2 : s2.ok := by rw [← HS2.out]; exact outerS_ok key
  have KK := hide fun W (h : Ext w W) => (show Calls Tryd.prog 45 #[.slice A key.length c] W (Ret W (Is (.agg (us (s1.list ++ s2.list)).toArray))) from (by
    have h3 := keyedBy_any A c key W (hA.ext h) hkc hk (ht.ext h)
    rw [HS1.out, HS2.out] at h3
    exact h3))
  have KT := hide fun W (h : Ext w W) => (show Calls Tryd.prog 46 #[.agg (us (s1.list ++ s2.list)).toArray, .slice B p.length d] W (Ret W (Is (.agg (bs o).toArray))) from (by
    have h3 := tag_any s1 s2 k1 k2 B d p W (hB.ext h) hpc hp (ht.ext h)
    have e : tagS s1 s2 p = o := by rw [← HO.out, ← HS1.out, ← HS2.out]; rfl
    rw [e] at h3
    exact h3))
  rw [HO.out]
  go_enter Tryd.func16, Tryd.ntmps16
  go_wp2_with (first
    | (go_at_call 45; refine (KK.out _ (Ext.alloc w _)).mono ?_; rintro e w2 ⟨v2, rfl, hw2, rfl⟩)
    | (go_at_call 46; refine (KT.out _ ((Ext.alloc w _).trans hw2)).mono ?_; rintro e w3 ⟨v3, rfl, hw3, rfl⟩)
    | ((with_reducible show wpList _ _ _ (⟨none, .store _ (.tmp 4) _, _, _, _, _⟩ :: _) _ _);
       refine wpList_store_rw rfl 24 (.tmp 4) (.tmp 8) rfl _ rfl (bs o) rfl 24 (bs (List.replicate 32 0)) (Rw.ext (heap_alloc_new w _) (hw2.trans hw3)) 32 (by kernel_rfl) (by rw [bs_length, hol]) (by rw [bs_length, bs_length, hol]; rfl) (List.all_eq_true.2 (bs_one _)) ?_;
       intro w5 hr5 hl5))
  exact ret_rw rfl rfl _ rfl _ _ hr5 32 5 Tryd.underlying24 (by kernel_rfl) (by rw [bs_length, hol]) (Ret.mk ((((Ext.alloc w _).trans hw2).trans hw3).laid hl5 (Nat.le_refl _)) rfl)
end Go.Proofs.YtmanflfanoddgaaDoor
