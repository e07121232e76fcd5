/-
  PoolErrs' walk, case 4.
  PoolErrs' walk, case 5.
  PoolErrs' walk, case 6.
  PoolErrs' walk, in all cases.
-/
import Derived.Test.YtkmkhlipimbghaaGreatDoorPkCardPlEr8
set_option linter.unusedVariables false
set_option linter.unusedSimpArgs false

namespace Go.Proofs.YtkmkhlipimbghaaGreatDoor
open Go.RowKit

section
variable {w : World}
set_option maxRecDepth 20000 in
set_option maxHeartbeats 12800000 in
theorem errs_4 (at_ pg fr ix off : Int) (A : Option Addr) (l : List UInt8) (n cc : Nat) (hT : Tab w) (hrd : Rd w A l) (hln : l.length = n) (hn : n ≤ 140737488355328) (hpg : pg < 9223372036854775808) (hpg0 : -9223372036854775808 ≤ pg) (ho1 : -9223372036854775808 ≤ off) (ho2 : off < 9223372036854775808) (hr : 0 ≤ at_ ∧ 1 ≤ pg ∧ pg ≤ 4096 ∧ 44 - pg < at_) :
    Calls Tryz.prog 4 #[.int .i64 at_, .int .i64 pg, .int .i64 fr, .int .i64 ix, .int .i64 off, .slice A n cc] w (Ret w (Is (.bool true))) := by
  have KA := hide (pawake_any w hT)
  have HT := hide hT
  have HRD := hide hrd
  have HLN := hide hln
  have HN := hide hn
  have HR := hide hr
  have HPG := hide hpg
  have HOFF := hide (And.intro ho1 ho2)
  have KF : Hid (∀ W, Ext w W → Calls Tryz.prog 6 #[.int .i64 3, .int .i64 2] W (fun e w' => ∃ b g q p, e = .returned (.pointer (some ⟨b, 0, none⟩)) ∧ Hid (W.heap.size ≤ b) ∧ Hid (Wd W w' b g q p (fS 3 2)))) := hide (fun W hW => wd_fresh (n := 3) (f := 2) (by decide) (by decide) ⟨by decide, by decide⟩ (HT.out.ext hW))
  have hft : (fS 3 2).Fit 10 := fresh_fit (by decide) (by decide) ⟨by decide, by decide⟩
  have HFT := hide hft
  have hp1 := page_new (S := fS 3 2) (i := 1) ⟨rfl, rfl⟩ hft (by decide) rfl (by decide)
  have HDL : Hid ((fS 3 2).D.dur.length = 44) := hide dk2_len
  obtain ⟨s1, HS1⟩ : ∃ s1, Hid (({ fS 3 2 with P := askP (bringP (fS 3 2).P 1 ((fS 3 2).D.at ((fS 3 2).P.at_ + 1))) 1 (frameB ((fS 3 2).D.at ((fS 3 2).P.at_ + 1))) } : St) = s1) := ⟨_, hide rfl⟩
  rw [HS1.out] at hp1
  rw [show ((1 : Nat) : Int) = 1 from rfl] at hp1
  have HP1 := hide hp1
  clear HS1
  obtain ⟨s0, HS0⟩ : ∃ s0, Hid (fS 3 2 = s0) := ⟨_, hide rfl⟩
  rw [HS0.out] at KF HFT HDL HP1
  obtain ⟨xi, HXI⟩ : ∃ xi : Int, Hid (44 - pg = xi) := ⟨_, hide rfl⟩
  obtain ⟨yi, HYI⟩ : ∃ yi : Int, Hid (504 - off = yi) := ⟨_, hide rfl⟩
  clear hT hrd hln hn hr hpg ho1 ho2 hft hp1 HS0
  go_enter Tryz.func4, Tryz.ntmps4
  go_upto_region 6 with (first
    | (go_at_call 5; (with_reducible refine KA.out.mono ?_); rintro e w1 ⟨rfl, hx1⟩; have HX1 := hide hx1; clear hx1)
    | (go_at_call 6; (with_reducible refine (KF.out w1 HX1.out).mono ?_); rintro e w2 ⟨b, g, q, p, rfl, HB, HW2⟩))
  clear KA KF
  have HT1 : Hid (Tab w1) := hide (HT.out.ext HX1.out)
  have HRD1 : Hid (Rd w1 A l) := hide (HRD.out.ext HX1.out)
  have d0 := HW2.out.c0
  have d1 := HW2.out.c1
  have KN : Hid (∀ W, Ext w2 W → Calls Tryz.prog 14 #[.pointer (some ⟨g, 0, none⟩), .pointer (some ⟨q, 0, none⟩), .int .i64 at_, .int .i64 pg, .int .i64 fr] W (fun e w' => e = .returned (.tuple #[.pointer none, .int .i64 1]) ∧ Ext W w')) := hide (fun W hW => by
    refine (wd_new_arg (HW2.out.ext_ hW) (by rw [HDL.out]; decide) at_ pg fr HPG.out (by rw [HDL.out]; have := HR.out; omega)).mono fun e w' hh => ?_
    obtain ⟨he, hw⟩ := hh
    subst hw
    exact ⟨he, Ext.refl _⟩)
  go_region_law (go_simp; go_at_call 14; (with_reducible refine (KN.out _ (Ext.drew _)).mono ?_); rintro e w3 ⟨rfl, hx3⟩; have HX3 : Hid (Ext w2 w3) := hide ((Ext.drew _).trans hx3); clear hx3)
  all_goals
    have HW3 : Hid (Wd w1 w3 b g q p s0) := hide (HW2.out.ext_ HX3.out)
    clear d0 d1 KN
    have d0 := HW3.out.c0
    have d1 := HW3.out.c1
    have d2 := HW3.out.c2
    have hr := HR.out
    have r1 : 0 ≤ at_ := hr.1
    have r2 : 1 ≤ pg := hr.2.1
    have r3 : pg ≤ 4096 := hr.2.2.1
    have r4 : ¬ at_ ≤ xi := by have := hr.2.2.2; have := HXI.out; omega
    have hxw : IntKind.i64.wrap (44 - pg) = xi := by rw [IntKind.wrap_i64]; have := HXI.out; omega
    clear hr
    go_upto_region 12 with (first
      | (go_at_call 14; (with_reducible refine (pnew_nil1 _ _ _ _).mono ?_); rintro e wz ⟨rfl, hz⟩; subst hz)
      | (go_at_call 14; (with_reducible refine (pnew_nil2 _ _ _ _).mono ?_); rintro e wz ⟨rfl, hz⟩; subst hz))
    clear d0 d1 hxw r1 r2 r3 r4
    by_cases o1 : off < 0
    · have KB := hide (fun (W : World) => wd_write_arg (w := W) (p := p) 1 off A n cc HN.out 480 (.inl o1))
      go_wp2_with (first
          | (go_at_call 15; (with_reducible refine (KB.out w3).mono ?_); rintro e wz ⟨rfl, hz⟩; subst hz)
          | (go_at_call 16; (with_reducible refine (pread_nil _).mono ?_); rintro e wz ⟨rfl, hz⟩; subst hz)
          | (go_at_call 15; (with_reducible refine (pwrite_nil _ _ _ _ _ _).mono ?_); rintro e wz ⟨rfl, hz⟩; subst hz)
          | (go_at_call 17; (with_reducible refine (ppin_nil _).mono ?_); rintro e wz ⟨rfl, hz⟩; subst hz)
          | (go_at_call 18; (with_reducible refine (punpin_nil _).mono ?_); rintro e wz ⟨rfl, hz⟩; subst hz)
          | (go_at_call 11; (with_reducible refine pflush_nil.mono ?_); rintro e wz ⟨rfl, hz⟩; subst hz)
          | (go_at_call 12; (with_reducible refine pdirty_nil.mono ?_); rintro e wz ⟨rfl, hz⟩; subst hz)
          | (go_at_call 9; (with_reducible refine plen_nil.mono ?_); rintro e wz ⟨rfl, hz⟩; subst hz))
      go_ret
      exact Ret.mk (HX1.out.trans HW3.out.ext) rfl
    · by_cases o2 : 504 < off
      · have KB := hide (fun (W : World) => wd_write_arg (w := W) (p := p) 1 off A n cc HN.out 480 (.inr (by omega)))
        go_wp2_with (first
            | (go_at_call 15; (with_reducible refine (KB.out w3).mono ?_); rintro e wz ⟨rfl, hz⟩; subst hz)
            | (go_at_call 16; (with_reducible refine (pread_nil _).mono ?_); rintro e wz ⟨rfl, hz⟩; subst hz)
            | (go_at_call 15; (with_reducible refine (pwrite_nil _ _ _ _ _ _).mono ?_); rintro e wz ⟨rfl, hz⟩; subst hz)
            | (go_at_call 17; (with_reducible refine (ppin_nil _).mono ?_); rintro e wz ⟨rfl, hz⟩; subst hz)
            | (go_at_call 18; (with_reducible refine (punpin_nil _).mono ?_); rintro e wz ⟨rfl, hz⟩; subst hz)
            | (go_at_call 11; (with_reducible refine pflush_nil.mono ?_); rintro e wz ⟨rfl, hz⟩; subst hz)
            | (go_at_call 12; (with_reducible refine pdirty_nil.mono ?_); rintro e wz ⟨rfl, hz⟩; subst hz)
            | (go_at_call 9; (with_reducible refine plen_nil.mono ?_); rintro e wz ⟨rfl, hz⟩; subst hz))
        go_ret
        exact Ret.mk (HX1.out.trans HW3.out.ext) rfl
      · have hyw : IntKind.i64.wrap (504 - off) = yi := by rw [IntKind.wrap_i64]; have := HYI.out; omega
        obtain ⟨nn, HNN⟩ : ∃ nn : Int, Hid ((n : Int) = nn) := ⟨_, hide rfl⟩
        by_cases o3 : yi < (n : Int)
        · have KB := hide (fun (W : World) => wd_write_arg (w := W) (p := p) 1 off A n cc HN.out 480 (.inr (by have := HYI.out; omega)))
          go_wp2_with (first
              | (go_at_call 15; (with_reducible refine (KB.out w3).mono ?_); rintro e wz ⟨rfl, hz⟩; subst hz)
              | (go_at_call 16; (with_reducible refine (pread_nil _).mono ?_); rintro e wz ⟨rfl, hz⟩; subst hz)
              | (go_at_call 15; (with_reducible refine (pwrite_nil _ _ _ _ _ _).mono ?_); rintro e wz ⟨rfl, hz⟩; subst hz)
              | (go_at_call 17; (with_reducible refine (ppin_nil _).mono ?_); rintro e wz ⟨rfl, hz⟩; subst hz)
              | (go_at_call 18; (with_reducible refine (punpin_nil _).mono ?_); rintro e wz ⟨rfl, hz⟩; subst hz)
              | (go_at_call 11; (with_reducible refine pflush_nil.mono ?_); rintro e wz ⟨rfl, hz⟩; subst hz)
              | (go_at_call 12; (with_reducible refine pdirty_nil.mono ?_); rintro e wz ⟨rfl, hz⟩; subst hz)
              | (go_at_call 9; (with_reducible refine plen_nil.mono ?_); rintro e wz ⟨rfl, hz⟩; subst hz))
          go_ret
          exact Ret.mk (HX1.out.trans HW3.out.ext) rfl
        · obtain ⟨o, HO⟩ : ∃ o : Nat, Hid ((o : Int) = off) := ⟨off.toNat, hide (by omega)⟩
          have KW : Hid (Calls Tryz.prog 15 #[.pointer (some ⟨p, 0, none⟩), .int .i64 1, .int .i64 off, .slice A n cc, .int .u64 480] w3 (fun e w' => e = .returned (.int .i64 0) ∧ Ext w1 w')) := hide (by
            have k1 := wd_write_out HW3.out HFT.out (by decide) HT1.out 1 s1 HP1.out o A l n cc HRD1.out HLN.out (by have h1 := HO.out; have h2 := HYI.out; omega) 480
            rw [HO.out] at k1
            refine k1.mono fun e w' hh => ?_
            obtain ⟨f, -, he, hw⟩ := hh
            exact ⟨he, hw.ext⟩)
          go_wp2_with (first
            | (go_at_call 15; (with_reducible refine KW.out.mono ?_); rintro e w4 ⟨rfl, hx4⟩; have HX4 := hide hx4; clear hx4)
            | (go_at_call 16; (with_reducible refine (pread_nil _).mono ?_); rintro e wz ⟨rfl, hz⟩; subst hz)
            | (go_at_call 15; (with_reducible refine (pwrite_nil _ _ _ _ _ _).mono ?_); rintro e wz ⟨rfl, hz⟩; subst hz)
            | (go_at_call 17; (with_reducible refine (ppin_nil _).mono ?_); rintro e wz ⟨rfl, hz⟩; subst hz)
            | (go_at_call 18; (with_reducible refine (punpin_nil _).mono ?_); rintro e wz ⟨rfl, hz⟩; subst hz)
            | (go_at_call 11; (with_reducible refine pflush_nil.mono ?_); rintro e wz ⟨rfl, hz⟩; subst hz)
            | (go_at_call 12; (with_reducible refine pdirty_nil.mono ?_); rintro e wz ⟨rfl, hz⟩; subst hz)
            | (go_at_call 9; (with_reducible refine plen_nil.mono ?_); rintro e wz ⟨rfl, hz⟩; subst hz))
          go_ret
          exact Ret.mk (HX1.out.trans HX4.out) rfl
end
end Go.Proofs.YtkmkhlipimbghaaGreatDoor
namespace Go.Proofs.YtkmkhlipimbghaaGreatDoor
open Go.RowKit

section
variable {w : World}
set_option maxRecDepth 20000 in
set_option maxHeartbeats 12800000 in
theorem errs_5 (at_ pg fr ix off : Int) (A : Option Addr) (l : List UInt8) (n cc : Nat) (hT : Tab w) (hrd : Rd w A l) (hln : l.length = n) (hn : n ≤ 140737488355328) (hpg : pg < 9223372036854775808) (hpg0 : -9223372036854775808 ≤ pg) (ho1 : -9223372036854775808 ≤ off) (ho2 : off < 9223372036854775808) (hr : 0 ≤ at_ ∧ 1 ≤ pg ∧ pg ≤ 4096 ∧ at_ ≤ 44 - pg ∧ fr < 1) :
    Calls Tryz.prog 4 #[.int .i64 at_, .int .i64 pg, .int .i64 fr, .int .i64 ix, .int .i64 off, .slice A n cc] w (Ret w (Is (.bool true))) := by
  have KA := hide (pawake_any w hT)
  have HT := hide hT
  have HRD := hide hrd
  have HLN := hide hln
  have HN := hide hn
  have HR := hide hr
  have HPG := hide hpg
  have HOFF := hide (And.intro ho1 ho2)
  have KF : Hid (∀ W, Ext w W → Calls Tryz.prog 6 #[.int .i64 3, .int .i64 2] W (fun e w' => ∃ b g q p, e = .returned (.pointer (some ⟨b, 0, none⟩)) ∧ Hid (W.heap.size ≤ b) ∧ Hid (Wd W w' b g q p (fS 3 2)))) := hide (fun W hW => wd_fresh (n := 3) (f := 2) (by decide) (by decide) ⟨by decide, by decide⟩ (HT.out.ext hW))
  have hft : (fS 3 2).Fit 10 := fresh_fit (by decide) (by decide) ⟨by decide, by decide⟩
  have HFT := hide hft
  have hp1 := page_new (S := fS 3 2) (i := 1) ⟨rfl, rfl⟩ hft (by decide) rfl (by decide)
  have HDL : Hid ((fS 3 2).D.dur.length = 44) := hide dk2_len
  obtain ⟨s1, HS1⟩ : ∃ s1, Hid (({ fS 3 2 with P := askP (bringP (fS 3 2).P 1 ((fS 3 2).D.at ((fS 3 2).P.at_ + 1))) 1 (frameB ((fS 3 2).D.at ((fS 3 2).P.at_ + 1))) } : St) = s1) := ⟨_, hide rfl⟩
  rw [HS1.out] at hp1
  rw [show ((1 : Nat) : Int) = 1 from rfl] at hp1
  have HP1 := hide hp1
  clear HS1
  obtain ⟨s0, HS0⟩ : ∃ s0, Hid (fS 3 2 = s0) := ⟨_, hide rfl⟩
  rw [HS0.out] at KF HFT HDL HP1
  obtain ⟨xi, HXI⟩ : ∃ xi : Int, Hid (44 - pg = xi) := ⟨_, hide rfl⟩
  obtain ⟨yi, HYI⟩ : ∃ yi : Int, Hid (504 - off = yi) := ⟨_, hide rfl⟩
  clear hT hrd hln hn hr hpg ho1 ho2 hft hp1 HS0
  go_enter Tryz.func4, Tryz.ntmps4
  go_upto_region 6 with (first
    | (go_at_call 5; (with_reducible refine KA.out.mono ?_); rintro e w1 ⟨rfl, hx1⟩; have HX1 := hide hx1; clear hx1)
    | (go_at_call 6; (with_reducible refine (KF.out w1 HX1.out).mono ?_); rintro e w2 ⟨b, g, q, p, rfl, HB, HW2⟩))
  clear KA KF
  have HT1 : Hid (Tab w1) := hide (HT.out.ext HX1.out)
  have HRD1 : Hid (Rd w1 A l) := hide (HRD.out.ext HX1.out)
  have d0 := HW2.out.c0
  have d1 := HW2.out.c1
  have KN : Hid (∀ W, Ext w2 W → Calls Tryz.prog 14 #[.pointer (some ⟨g, 0, none⟩), .pointer (some ⟨q, 0, none⟩), .int .i64 at_, .int .i64 pg, .int .i64 fr] W (fun e w' => e = .returned (.tuple #[.pointer none, .int .i64 1]) ∧ Ext W w')) := hide (fun W hW => by
    refine (wd_new_arg (HW2.out.ext_ hW) (by rw [HDL.out]; decide) at_ pg fr HPG.out (by rw [HDL.out]; have := HR.out; omega)).mono fun e w' hh => ?_
    obtain ⟨he, hw⟩ := hh
    subst hw
    exact ⟨he, Ext.refl _⟩)
  go_region_law (go_simp; go_at_call 14; (with_reducible refine (KN.out _ (Ext.drew _)).mono ?_); rintro e w3 ⟨rfl, hx3⟩; have HX3 : Hid (Ext w2 w3) := hide ((Ext.drew _).trans hx3); clear hx3)
  all_goals
    have HW3 : Hid (Wd w1 w3 b g q p s0) := hide (HW2.out.ext_ HX3.out)
    clear d0 d1 KN
    have d0 := HW3.out.c0
    have d1 := HW3.out.c1
    have d2 := HW3.out.c2
    have hr := HR.out
    have r1 : 0 ≤ at_ := hr.1
    have r2 : 1 ≤ pg := hr.2.1
    have r3 : pg ≤ 4096 := hr.2.2.1
    have r4 : at_ ≤ xi := by have := hr.2.2.2.1; have := HXI.out; omega
    have r5 : ¬ 1 ≤ fr := by omega
    have hxw : IntKind.i64.wrap (44 - pg) = xi := by rw [IntKind.wrap_i64]; have := HXI.out; omega
    clear hr
    go_upto_region 12 with (first
      | (go_at_call 14; (with_reducible refine (pnew_nil1 _ _ _ _).mono ?_); rintro e wz ⟨rfl, hz⟩; subst hz)
      | (go_at_call 14; (with_reducible refine (pnew_nil2 _ _ _ _).mono ?_); rintro e wz ⟨rfl, hz⟩; subst hz))
    clear d0 d1 hxw r1 r2 r3 r4 r5
    by_cases o1 : off < 0
    · have KB := hide (fun (W : World) => wd_write_arg (w := W) (p := p) 1 off A n cc HN.out 480 (.inl o1))
      go_wp2_with (first
          | (go_at_call 15; (with_reducible refine (KB.out w3).mono ?_); rintro e wz ⟨rfl, hz⟩; subst hz)
          | (go_at_call 16; (with_reducible refine (pread_nil _).mono ?_); rintro e wz ⟨rfl, hz⟩; subst hz)
          | (go_at_call 15; (with_reducible refine (pwrite_nil _ _ _ _ _ _).mono ?_); rintro e wz ⟨rfl, hz⟩; subst hz)
          | (go_at_call 17; (with_reducible refine (ppin_nil _).mono ?_); rintro e wz ⟨rfl, hz⟩; subst hz)
          | (go_at_call 18; (with_reducible refine (punpin_nil _).mono ?_); rintro e wz ⟨rfl, hz⟩; subst hz)
          | (go_at_call 11; (with_reducible refine pflush_nil.mono ?_); rintro e wz ⟨rfl, hz⟩; subst hz)
          | (go_at_call 12; (with_reducible refine pdirty_nil.mono ?_); rintro e wz ⟨rfl, hz⟩; subst hz)
          | (go_at_call 9; (with_reducible refine plen_nil.mono ?_); rintro e wz ⟨rfl, hz⟩; subst hz))
      go_ret
      exact Ret.mk (HX1.out.trans HW3.out.ext) rfl
    · by_cases o2 : 504 < off
      · have KB := hide (fun (W : World) => wd_write_arg (w := W) (p := p) 1 off A n cc HN.out 480 (.inr (by omega)))
        go_wp2_with (first
            | (go_at_call 15; (with_reducible refine (KB.out w3).mono ?_); rintro e wz ⟨rfl, hz⟩; subst hz)
            | (go_at_call 16; (with_reducible refine (pread_nil _).mono ?_); rintro e wz ⟨rfl, hz⟩; subst hz)
            | (go_at_call 15; (with_reducible refine (pwrite_nil _ _ _ _ _ _).mono ?_); rintro e wz ⟨rfl, hz⟩; subst hz)
            | (go_at_call 17; (with_reducible refine (ppin_nil _).mono ?_); rintro e wz ⟨rfl, hz⟩; subst hz)
            | (go_at_call 18; (with_reducible refine (punpin_nil _).mono ?_); rintro e wz ⟨rfl, hz⟩; subst hz)
            | (go_at_call 11; (with_reducible refine pflush_nil.mono ?_); rintro e wz ⟨rfl, hz⟩; subst hz)
            | (go_at_call 12; (with_reducible refine pdirty_nil.mono ?_); rintro e wz ⟨rfl, hz⟩; subst hz)
            | (go_at_call 9; (with_reducible refine plen_nil.mono ?_); rintro e wz ⟨rfl, hz⟩; subst hz))
        go_ret
        exact Ret.mk (HX1.out.trans HW3.out.ext) rfl
      · have hyw : IntKind.i64.wrap (504 - off) = yi := by rw [IntKind.wrap_i64]; have := HYI.out; omega
        obtain ⟨nn, HNN⟩ : ∃ nn : Int, Hid ((n : Int) = nn) := ⟨_, hide rfl⟩
        by_cases o3 : yi < (n : Int)
        · have KB := hide (fun (W : World) => wd_write_arg (w := W) (p := p) 1 off A n cc HN.out 480 (.inr (by have := HYI.out; omega)))
          go_wp2_with (first
              | (go_at_call 15; (with_reducible refine (KB.out w3).mono ?_); rintro e wz ⟨rfl, hz⟩; subst hz)
              | (go_at_call 16; (with_reducible refine (pread_nil _).mono ?_); rintro e wz ⟨rfl, hz⟩; subst hz)
              | (go_at_call 15; (with_reducible refine (pwrite_nil _ _ _ _ _ _).mono ?_); rintro e wz ⟨rfl, hz⟩; subst hz)
              | (go_at_call 17; (with_reducible refine (ppin_nil _).mono ?_); rintro e wz ⟨rfl, hz⟩; subst hz)
              | (go_at_call 18; (with_reducible refine (punpin_nil _).mono ?_); rintro e wz ⟨rfl, hz⟩; subst hz)
              | (go_at_call 11; (with_reducible refine pflush_nil.mono ?_); rintro e wz ⟨rfl, hz⟩; subst hz)
              | (go_at_call 12; (with_reducible refine pdirty_nil.mono ?_); rintro e wz ⟨rfl, hz⟩; subst hz)
              | (go_at_call 9; (with_reducible refine plen_nil.mono ?_); rintro e wz ⟨rfl, hz⟩; subst hz))
          go_ret
          exact Ret.mk (HX1.out.trans HW3.out.ext) rfl
        · obtain ⟨o, HO⟩ : ∃ o : Nat, Hid ((o : Int) = off) := ⟨off.toNat, hide (by omega)⟩
          have KW : Hid (Calls Tryz.prog 15 #[.pointer (some ⟨p, 0, none⟩), .int .i64 1, .int .i64 off, .slice A n cc, .int .u64 480] w3 (fun e w' => e = .returned (.int .i64 0) ∧ Ext w1 w')) := hide (by
            have k1 := wd_write_out HW3.out HFT.out (by decide) HT1.out 1 s1 HP1.out o A l n cc HRD1.out HLN.out (by have h1 := HO.out; have h2 := HYI.out; omega) 480
            rw [HO.out] at k1
            refine k1.mono fun e w' hh => ?_
            obtain ⟨f, -, he, hw⟩ := hh
            exact ⟨he, hw.ext⟩)
          go_wp2_with (first
            | (go_at_call 15; (with_reducible refine KW.out.mono ?_); rintro e w4 ⟨rfl, hx4⟩; have HX4 := hide hx4; clear hx4)
            | (go_at_call 16; (with_reducible refine (pread_nil _).mono ?_); rintro e wz ⟨rfl, hz⟩; subst hz)
            | (go_at_call 15; (with_reducible refine (pwrite_nil _ _ _ _ _ _).mono ?_); rintro e wz ⟨rfl, hz⟩; subst hz)
            | (go_at_call 17; (with_reducible refine (ppin_nil _).mono ?_); rintro e wz ⟨rfl, hz⟩; subst hz)
            | (go_at_call 18; (with_reducible refine (punpin_nil _).mono ?_); rintro e wz ⟨rfl, hz⟩; subst hz)
            | (go_at_call 11; (with_reducible refine pflush_nil.mono ?_); rintro e wz ⟨rfl, hz⟩; subst hz)
            | (go_at_call 12; (with_reducible refine pdirty_nil.mono ?_); rintro e wz ⟨rfl, hz⟩; subst hz)
            | (go_at_call 9; (with_reducible refine plen_nil.mono ?_); rintro e wz ⟨rfl, hz⟩; subst hz))
          go_ret
          exact Ret.mk (HX1.out.trans HX4.out) rfl
end
end Go.Proofs.YtkmkhlipimbghaaGreatDoor
namespace Go.Proofs.YtkmkhlipimbghaaGreatDoor
open Go.RowKit

section
variable {w : World}
set_option maxRecDepth 20000 in
set_option maxHeartbeats 12800000 in
theorem errs_6 (at_ pg fr ix off : Int) (A : Option Addr) (l : List UInt8) (n cc : Nat) (hT : Tab w) (hrd : Rd w A l) (hln : l.length = n) (hn : n ≤ 140737488355328) (hpg : pg < 9223372036854775808) (hpg0 : -9223372036854775808 ≤ pg) (ho1 : -9223372036854775808 ≤ off) (ho2 : off < 9223372036854775808) (hr : 0 ≤ at_ ∧ 1 ≤ pg ∧ pg ≤ 4096 ∧ at_ ≤ 44 - pg ∧ 64 < fr) :
    Calls Tryz.prog 4 #[.int .i64 at_, .int .i64 pg, .int .i64 fr, .int .i64 ix, .int .i64 off, .slice A n cc] w (Ret w (Is (.bool true))) := by
  have KA := hide (pawake_any w hT)
  have HT := hide hT
  have HRD := hide hrd
  have HLN := hide hln
  have HN := hide hn
  have HR := hide hr
  have HPG := hide hpg
  have HOFF := hide (And.intro ho1 ho2)
  have KF : Hid (∀ W, Ext w W → Calls Tryz.prog 6 #[.int .i64 3, .int .i64 2] W (fun e w' => ∃ b g q p, e = .returned (.pointer (some ⟨b, 0, none⟩)) ∧ Hid (W.heap.size ≤ b) ∧ Hid (Wd W w' b g q p (fS 3 2)))) := hide (fun W hW => wd_fresh (n := 3) (f := 2) (by decide) (by decide) ⟨by decide, by decide⟩ (HT.out.ext hW))
  have hft : (fS 3 2).Fit 10 := fresh_fit (by decide) (by decide) ⟨by decide, by decide⟩
  have HFT := hide hft
  have hp1 := page_new (S := fS 3 2) (i := 1) ⟨rfl, rfl⟩ hft (by decide) rfl (by decide)
  have HDL : Hid ((fS 3 2).D.dur.length = 44) := hide dk2_len
  obtain ⟨s1, HS1⟩ : ∃ s1, Hid (({ fS 3 2 with P := askP (bringP (fS 3 2).P 1 ((fS 3 2).D.at ((fS 3 2).P.at_ + 1))) 1 (frameB ((fS 3 2).D.at ((fS 3 2).P.at_ + 1))) } : St) = s1) := ⟨_, hide rfl⟩
  rw [HS1.out] at hp1
  rw [show ((1 : Nat) : Int) = 1 from rfl] at hp1
  have HP1 := hide hp1
  clear HS1
  obtain ⟨s0, HS0⟩ : ∃ s0, Hid (fS 3 2 = s0) := ⟨_, hide rfl⟩
  rw [HS0.out] at KF HFT HDL HP1
  obtain ⟨xi, HXI⟩ : ∃ xi : Int, Hid (44 - pg = xi) := ⟨_, hide rfl⟩
  obtain ⟨yi, HYI⟩ : ∃ yi : Int, Hid (504 - off = yi) := ⟨_, hide rfl⟩
  clear hT hrd hln hn hr hpg ho1 ho2 hft hp1 HS0
  go_enter Tryz.func4, Tryz.ntmps4
  go_upto_region 6 with (first
    | (go_at_call 5; (with_reducible refine KA.out.mono ?_); rintro e w1 ⟨rfl, hx1⟩; have HX1 := hide hx1; clear hx1)
    | (go_at_call 6; (with_reducible refine (KF.out w1 HX1.out).mono ?_); rintro e w2 ⟨b, g, q, p, rfl, HB, HW2⟩))
  clear KA KF
  have HT1 : Hid (Tab w1) := hide (HT.out.ext HX1.out)
  have HRD1 : Hid (Rd w1 A l) := hide (HRD.out.ext HX1.out)
  have d0 := HW2.out.c0
  have d1 := HW2.out.c1
  have KN : Hid (∀ W, Ext w2 W → Calls Tryz.prog 14 #[.pointer (some ⟨g, 0, none⟩), .pointer (some ⟨q, 0, none⟩), .int .i64 at_, .int .i64 pg, .int .i64 fr] W (fun e w' => e = .returned (.tuple #[.pointer none, .int .i64 1]) ∧ Ext W w')) := hide (fun W hW => by
    refine (wd_new_arg (HW2.out.ext_ hW) (by rw [HDL.out]; decide) at_ pg fr HPG.out (by rw [HDL.out]; have := HR.out; omega)).mono fun e w' hh => ?_
    obtain ⟨he, hw⟩ := hh
    subst hw
    exact ⟨he, Ext.refl _⟩)
  go_region_law (go_simp; go_at_call 14; (with_reducible refine (KN.out _ (Ext.drew _)).mono ?_); rintro e w3 ⟨rfl, hx3⟩; have HX3 : Hid (Ext w2 w3) := hide ((Ext.drew _).trans hx3); clear hx3)
  all_goals
    have HW3 : Hid (Wd w1 w3 b g q p s0) := hide (HW2.out.ext_ HX3.out)
    clear d0 d1 KN
    have d0 := HW3.out.c0
    have d1 := HW3.out.c1
    have d2 := HW3.out.c2
    have hr := HR.out
    have r1 : 0 ≤ at_ := hr.1
    have r2 : 1 ≤ pg := hr.2.1
    have r3 : pg ≤ 4096 := hr.2.2.1
    have r4 : at_ ≤ xi := by have := hr.2.2.2.1; have := HXI.out; omega
    have r5 : 1 ≤ fr := by omega
    have r6 : ¬ fr ≤ 64 := by omega
    have hxw : IntKind.i64.wrap (44 - pg) = xi := by rw [IntKind.wrap_i64]; have := HXI.out; omega
    clear hr
    go_upto_region 12 with (first
      | (go_at_call 14; (with_reducible refine (pnew_nil1 _ _ _ _).mono ?_); rintro e wz ⟨rfl, hz⟩; subst hz)
      | (go_at_call 14; (with_reducible refine (pnew_nil2 _ _ _ _).mono ?_); rintro e wz ⟨rfl, hz⟩; subst hz))
    clear d0 d1 hxw r1 r2 r3 r4 r5 r6
    by_cases o1 : off < 0
    · have KB := hide (fun (W : World) => wd_write_arg (w := W) (p := p) 1 off A n cc HN.out 480 (.inl o1))
      go_wp2_with (first
          | (go_at_call 15; (with_reducible refine (KB.out w3).mono ?_); rintro e wz ⟨rfl, hz⟩; subst hz)
          | (go_at_call 16; (with_reducible refine (pread_nil _).mono ?_); rintro e wz ⟨rfl, hz⟩; subst hz)
          | (go_at_call 15; (with_reducible refine (pwrite_nil _ _ _ _ _ _).mono ?_); rintro e wz ⟨rfl, hz⟩; subst hz)
          | (go_at_call 17; (with_reducible refine (ppin_nil _).mono ?_); rintro e wz ⟨rfl, hz⟩; subst hz)
          | (go_at_call 18; (with_reducible refine (punpin_nil _).mono ?_); rintro e wz ⟨rfl, hz⟩; subst hz)
          | (go_at_call 11; (with_reducible refine pflush_nil.mono ?_); rintro e wz ⟨rfl, hz⟩; subst hz)
          | (go_at_call 12; (with_reducible refine pdirty_nil.mono ?_); rintro e wz ⟨rfl, hz⟩; subst hz)
          | (go_at_call 9; (with_reducible refine plen_nil.mono ?_); rintro e wz ⟨rfl, hz⟩; subst hz))
      go_ret
      exact Ret.mk (HX1.out.trans HW3.out.ext) rfl
    · by_cases o2 : 504 < off
      · have KB := hide (fun (W : World) => wd_write_arg (w := W) (p := p) 1 off A n cc HN.out 480 (.inr (by omega)))
        go_wp2_with (first
            | (go_at_call 15; (with_reducible refine (KB.out w3).mono ?_); rintro e wz ⟨rfl, hz⟩; subst hz)
            | (go_at_call 16; (with_reducible refine (pread_nil _).mono ?_); rintro e wz ⟨rfl, hz⟩; subst hz)
            | (go_at_call 15; (with_reducible refine (pwrite_nil _ _ _ _ _ _).mono ?_); rintro e wz ⟨rfl, hz⟩; subst hz)
            | (go_at_call 17; (with_reducible refine (ppin_nil _).mono ?_); rintro e wz ⟨rfl, hz⟩; subst hz)
            | (go_at_call 18; (with_reducible refine (punpin_nil _).mono ?_); rintro e wz ⟨rfl, hz⟩; subst hz)
            | (go_at_call 11; (with_reducible refine pflush_nil.mono ?_); rintro e wz ⟨rfl, hz⟩; subst hz)
            | (go_at_call 12; (with_reducible refine pdirty_nil.mono ?_); rintro e wz ⟨rfl, hz⟩; subst hz)
            | (go_at_call 9; (with_reducible refine plen_nil.mono ?_); rintro e wz ⟨rfl, hz⟩; subst hz))
        go_ret
        exact Ret.mk (HX1.out.trans HW3.out.ext) rfl
      · have hyw : IntKind.i64.wrap (504 - off) = yi := by rw [IntKind.wrap_i64]; have := HYI.out; omega
        obtain ⟨nn, HNN⟩ : ∃ nn : Int, Hid ((n : Int) = nn) := ⟨_, hide rfl⟩
        by_cases o3 : yi < (n : Int)
        · have KB := hide (fun (W : World) => wd_write_arg (w := W) (p := p) 1 off A n cc HN.out 480 (.inr (by have := HYI.out; omega)))
          go_wp2_with (first
              | (go_at_call 15; (with_reducible refine (KB.out w3).mono ?_); rintro e wz ⟨rfl, hz⟩; subst hz)
              | (go_at_call 16; (with_reducible refine (pread_nil _).mono ?_); rintro e wz ⟨rfl, hz⟩; subst hz)
              | (go_at_call 15; (with_reducible refine (pwrite_nil _ _ _ _ _ _).mono ?_); rintro e wz ⟨rfl, hz⟩; subst hz)
              | (go_at_call 17; (with_reducible refine (ppin_nil _).mono ?_); rintro e wz ⟨rfl, hz⟩; subst hz)
              | (go_at_call 18; (with_reducible refine (punpin_nil _).mono ?_); rintro e wz ⟨rfl, hz⟩; subst hz)
              | (go_at_call 11; (with_reducible refine pflush_nil.mono ?_); rintro e wz ⟨rfl, hz⟩; subst hz)
              | (go_at_call 12; (with_reducible refine pdirty_nil.mono ?_); rintro e wz ⟨rfl, hz⟩; subst hz)
              | (go_at_call 9; (with_reducible refine plen_nil.mono ?_); rintro e wz ⟨rfl, hz⟩; subst hz))
          go_ret
          exact Ret.mk (HX1.out.trans HW3.out.ext) rfl
        · obtain ⟨o, HO⟩ : ∃ o : Nat, Hid ((o : Int) = off) := ⟨off.toNat, hide (by omega)⟩
          have KW : Hid (Calls Tryz.prog 15 #[.pointer (some ⟨p, 0, none⟩), .int .i64 1, .int .i64 off, .slice A n cc, .int .u64 480] w3 (fun e w' => e = .returned (.int .i64 0) ∧ Ext w1 w')) := hide (by
            have k1 := wd_write_out HW3.out HFT.out (by decide) HT1.out 1 s1 HP1.out o A l n cc HRD1.out HLN.out (by have h1 := HO.out; have h2 := HYI.out; omega) 480
            rw [HO.out] at k1
            refine k1.mono fun e w' hh => ?_
            obtain ⟨f, -, he, hw⟩ := hh
            exact ⟨he, hw.ext⟩)
          go_wp2_with (first
            | (go_at_call 15; (with_reducible refine KW.out.mono ?_); rintro e w4 ⟨rfl, hx4⟩; have HX4 := hide hx4; clear hx4)
            | (go_at_call 16; (with_reducible refine (pread_nil _).mono ?_); rintro e wz ⟨rfl, hz⟩; subst hz)
            | (go_at_call 15; (with_reducible refine (pwrite_nil _ _ _ _ _ _).mono ?_); rintro e wz ⟨rfl, hz⟩; subst hz)
            | (go_at_call 17; (with_reducible refine (ppin_nil _).mono ?_); rintro e wz ⟨rfl, hz⟩; subst hz)
            | (go_at_call 18; (with_reducible refine (punpin_nil _).mono ?_); rintro e wz ⟨rfl, hz⟩; subst hz)
            | (go_at_call 11; (with_reducible refine pflush_nil.mono ?_); rintro e wz ⟨rfl, hz⟩; subst hz)
            | (go_at_call 12; (with_reducible refine pdirty_nil.mono ?_); rintro e wz ⟨rfl, hz⟩; subst hz)
            | (go_at_call 9; (with_reducible refine plen_nil.mono ?_); rintro e wz ⟨rfl, hz⟩; subst hz))
          go_ret
          exact Ret.mk (HX1.out.trans HX4.out) rfl
end
end Go.Proofs.YtkmkhlipimbghaaGreatDoor
namespace Go.Proofs.YtkmkhlipimbghaaGreatDoor
open Go.RowKit

theorem errs_walk {w : World} (at_ pg fr ix off : Int) (A : Option Addr) (l : List UInt8) (n cc : Nat) (hT : Tab w) (hrd : Rd w A l) (hln : l.length = n) (hn : n ≤ 140737488355328) (hp : -9223372036854775808 ≤ pg ∧ pg ≤ 9223372036854775807) (ho : -9223372036854775808 ≤ off ∧ off ≤ 9223372036854775807) :
    Calls Tryz.prog 4 #[.int .i64 at_, .int .i64 pg, .int .i64 fr, .int .i64 ix, .int .i64 off, .slice A n cc] w (Ret w (Is (.bool true))) := by
  by_cases h1 : at_ < 0
  · exact errs_1 at_ pg fr ix off A l n cc hT hrd hln hn (by omega) hp.1 ho.1 (by omega) h1
  · by_cases h2 : pg < 1
    · exact errs_2 at_ pg fr ix off A l n cc hT hrd hln hn (by omega) hp.1 ho.1 (by omega) ⟨by omega, h2⟩
    · by_cases h3 : 4096 < pg
      · exact errs_3 at_ pg fr ix off A l n cc hT hrd hln hn (by omega) hp.1 ho.1 (by omega) ⟨by omega, h3⟩
      · by_cases h4 : 44 - pg < at_
        · exact errs_4 at_ pg fr ix off A l n cc hT hrd hln hn (by omega) hp.1 ho.1 (by omega) ⟨by omega, by omega, by omega, h4⟩
        · by_cases h5 : fr < 1
          · exact errs_5 at_ pg fr ix off A l n cc hT hrd hln hn (by omega) hp.1 ho.1 (by omega) ⟨by omega, by omega, by omega, by omega, h5⟩
          · by_cases h6 : 64 < fr
            · exact errs_6 at_ pg fr ix off A l n cc hT hrd hln hn (by omega) hp.1 ho.1 (by omega) ⟨by omega, by omega, by omega, by omega, h6⟩
            · exact errs_0 at_ pg fr ix off A l n cc hT hrd hln hn (by omega) hp.1 ho.1 (by omega) ⟨by omega, by omega, by omega, by omega, by omega, by omega⟩
end Go.Proofs.YtkmkhlipimbghaaGreatDoor
