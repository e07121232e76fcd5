/-
  The layer's own examples: what 'awake' answers.
-/
import Derived.Test.YtmoknfcocohiiaaDoorNamS
namespace Go.Proofs.YtmoknfcocohiiaaDoor
open Go.RowKit

theorem fold_amy : foldS [65, 109, 121, 46, 66] = ([97, 109, 121, 46, 98], 0, 0) := by decide +kernel
theorem strong_small : strongS [112, 97, 115, 115, 119, 111, 114, 100] [120] = 5 := by decide +kernel
theorem strong_mixed : strongS [112, 97, 115, 115, 87, 79, 82, 68] [120] = 0 := by decide +kernel

set_option maxRecDepth 20000 in
set_option maxHeartbeats 1000000 in
theorem awake_any (w : World) (hT : Tabs w) (hM : Mx w) : Calls Tryd.prog 9 #[] w (Ret w (Is (.bool true))) := by
  have K1 := hide (show Calls Tryd.prog 10 #[.string ⟨#[65, 109, 121, 46, 66]⟩] w (Ret w (Is (.tuple #[.string ⟨#[97, 109, 121, 46, 98]⟩, .int .i64 0, .int .i64 0]))) from (by
    have h := fold_any ⟨#[65, 109, 121, 46, 66]⟩ w (by decide)
    rw [show foldS (⟨#[65, 109, 121, 46, 66]⟩ : ByteArray).data.toList = ([97, 109, 121, 46, 98], 0, 0) from fold_amy] at h
    exact h))
  have K2 := hide fun W (h : Ext w W) => (show Calls Tryd.prog 15 #[.string ⟨#[112, 97, 115, 115, 119, 111, 114, 100]⟩, .string ⟨#[120]⟩] W (Ret W (Is (.int .i64 5))) from (by
    have h := strong_any ⟨#[112, 97, 115, 115, 119, 111, 114, 100]⟩ ⟨#[120]⟩ W (by decide) (by decide) (hT.ext h) (hM.ext h)
    rw [show strongS (⟨#[112, 97, 115, 115, 119, 111, 114, 100]⟩ : ByteArray).data.toList (⟨#[120]⟩ : ByteArray).data.toList = 5 from strong_small] at h
    exact h))
  have K3 := hide fun W (h : Ext w W) => (show Calls Tryd.prog 15 #[.string ⟨#[112, 97, 115, 115, 87, 79, 82, 68]⟩, .string ⟨#[120]⟩] W (Ret W (Is (.int .i64 0))) from (by
    have h := strong_any ⟨#[112, 97, 115, 115, 87, 79, 82, 68]⟩ ⟨#[120]⟩ W (by decide) (by decide) (hT.ext h) (hM.ext h)
    rw [show strongS (⟨#[112, 97, 115, 115, 87, 79, 82, 68]⟩ : ByteArray).data.toList (⟨#[120]⟩ : ByteArray).data.toList = 0 from strong_mixed] at h
    exact h))
  go_enter Tryd.func9, Tryd.ntmps9
  go_wp2_with (first
    | (go_at_call 10; refine K1.out.mono ?_; rintro e w1 ⟨v1, rfl, hx1, rfl⟩)
    | (go_at_call 15; (with_reducible refine (K2.out _ hx1).mono ?_); rintro e w2 ⟨v2, rfl, hx2, rfl⟩; have hx3 := hx1.trans hx2; clear K2)
    | (go_at_call 15; (with_reducible refine (K3.out _ hx3).mono ?_); rintro e w4 ⟨v4, rfl, hx4, rfl⟩; have hx5 := hx3.trans hx4))
  go_ret
  exact Ret.mk hx5 rfl
end Go.Proofs.YtmoknfcocohiiaaDoor
