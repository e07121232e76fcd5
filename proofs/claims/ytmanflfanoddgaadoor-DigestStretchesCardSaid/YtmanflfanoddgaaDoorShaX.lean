/-
  The layer's own example: what 'awake' answers.
-/
import Derived.Test.YtmanflfanoddgaaDoorShaV
import Derived.Test.YtmanflfanoddgaaDoorShaH
import Derived.Lib.SlBytesConst
namespace Go.Proofs.YtmanflfanoddgaaDoor
open Go.RowKit

theorem hex_abc : hexL (sha [97, 98, 99]) = [98, 97, 55, 56, 49, 54, 98, 102, 56, 102, 48, 49, 99, 102, 101, 97, 52, 49, 52, 49, 52, 48, 100, 101, 53, 100, 97, 101, 50, 50, 50, 51, 98, 48, 48, 51, 54, 49, 97, 51, 57, 54, 49, 55, 55, 97, 57, 99, 98, 52, 49, 48, 102, 102, 54, 49, 102, 50, 48, 48, 49, 53, 97, 100] := by
  rw [sha_abc]
  decide +kernel
set_option maxRecDepth 20000 in
set_option maxHeartbeats 1600000 in
theorem awake_any (w : World) (ht : Tab w) : Calls Tryd.prog 15 #[] w (Ret w (Is (.bool true))) := by
  have kc := fun (w : World) (C : Array Value) (n c : Nat) => Lib.run_convert_bytes_const (P := Tryd.prog) w 22 5 C n c Tryd.underlying22 Tryd.underlying5
  obtain ⟨o, HO⟩ : ∃ o, Hid (sha [97, 98, 99] = o) := ⟨_, rfl⟩
  have hol : o.length = 32 := by rw [← HO.out]; rfl
  have HX := hide hex_abc
  have KS := hide fun W (h : Ext w W) (C : Option Addr) (hC : Rd W C [97, 98, 99]) => (show Calls Tryd.prog 43 #[.slice C 3 3] W (Ret W (Is (.agg (bs o).toArray))) from (by
    have h3 := sum_any C 3 [97, 98, 99] W hC (by decide) (by decide) (ht.ext h)
    rw [HO.out] at h3
    exact h3))
  have KH := hide fun W (C : Option Addr) (hC : Rd W C o) => (show Calls Tryd.prog 44 #[.slice C 32 32] W (Ret W (Is (.string ⟨#[98, 97, 55, 56, 49, 54, 98, 102, 56, 102, 48, 49, 99, 102, 101, 97, 52, 49, 52, 49, 52, 48, 100, 101, 53, 100, 97, 101, 50, 50, 50, 51, 98, 48, 48, 51, 54, 49, 97, 51, 57, 54, 49, 55, 55, 97, 57, 99, 98, 52, 49, 48, 102, 102, 54, 49, 102, 50, 48, 48, 49, 53, 97, 100]⟩))) from (by
    have h3 := hex_any C 32 o W hC (by omega)
    have e := HX.out
    rw [HO.out] at e
    rw [hol, e] at h3
    exact h3))
  clear HX
  go_enter Tryd.func15, Tryd.ntmps15
  go_wp2_with (first
    | (go_at_call 43; refine (KS.out _ (Ext.alloc w _) _ (Rd.newf w _ [97, 98, 99] [] (3, 4))).mono ?_; rintro e w2 ⟨v2, rfl, hw2, rfl⟩; have hx2 : Ext w w2 := (Ext.alloc w _).trans hw2; clear hw2)
    | ((with_reducible show wpList _ _ _ (⟨none, .store _ (.tmp 1) _, _, _, _, _⟩ :: _) _ _);
       refine wpList_store_rw rfl 24 (.tmp 1) (.tmp 4) rfl _ rfl (bs o) rfl 24 (bs (List.replicate 32 0)) (heap_alloc_new w2 _) 32 (by kernel_rfl) (by rw [bs_length, hol]) (by rw [bs_length, bs_length, hol]; rfl) (List.all_eq_true.2 (bs_one _)) ?_;
       intro w3 hr3 hl3;
       have hx3 : Ext w w3 := (hx2.trans (Ext.alloc _ _)).laid hl3 hx2.size;
       have HR3 := hide (Rw.rd hr3); clear hr3 hl3)
    | (go_at_call 44; refine (KH.out _ _ HR3.out).mono ?_; rintro e w4 ⟨v4, rfl, hw4, rfl⟩; have hx4 := hx3.trans hw4))
  go_ret
  exact Ret.mk hx4 rfl
end Go.Proofs.YtmanflfanoddgaaDoor
